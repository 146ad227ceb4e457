"""What is refused: each class is made with its what."""


class NoCaller(LookupError):
    """No caller is called so."""

    def __init__(self, what):
        self.what = what


class NoWay(LookupError):
    """No way is called so."""

    def __init__(self, what):
        self.what = what


class NoDeed(LookupError):
    """There aren't so many deeds."""

    def __init__(self, what):
        self.what = what


class There(LookupError):
    """A caller or a way is there that's called so."""

    def __init__(self, what):
        self.what = what


class BadPlan(ValueError):
    """By this it would be no plan."""

    def __init__(self, what):
        self.what = what


class BadBeats(ValueError):
    """Beats that don't fit."""

    def __init__(self, what):
        self.what = what


class BadRow(ValueError):
    """A row of a text that isn't so written."""

    def __init__(self, what):
        self.what = what


class Unlike(ValueError):
    """What is to be put together is unlike."""

    def __init__(self, what):
        self.what = what


class Gone(ValueError):
    """A beat that has gone by."""

    def __init__(self, what):
        self.what = what


class TooMany(OverflowError):
    """There would be more than the bounds let."""

    def __init__(self, what):
        self.what = what


class Endless(OverflowError):
    """A caller's calls never end."""

    def __init__(self, what):
        self.what = what


class Hoarse(RuntimeError):
    """A caller that can't call yet."""

    def __init__(self, what):
        self.what = what


class Apart(RuntimeError):
    """A way that its two callers are too far apart for."""

    def __init__(self, what):
        self.what = what


class Tied(RuntimeError):
    """A caller that can't leave."""

    def __init__(self, what):
        self.what = what
