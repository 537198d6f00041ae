"""Numbers drawn one by one, always the same ones for the same beginning."""


class Draws:
    """Draws numbers below a bound, so that long scripts of deeds needn't be written out."""

    def __init__(self, beginning):
        self.now = beginning * 7919 + 17

    def below(self, bound):
        """The next number, from 0 to below the bound."""
        self.now = (self.now * 6364136223846793005 + 1442695040888963407) % 2 ** 64
        return (self.now >> 33) % bound

    def among(self, things):
        """One of the things."""
        return things[self.below(len(things))]
