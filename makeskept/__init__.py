"""Makeskept: a row of worths kept in all its makes, till they are let go."""
