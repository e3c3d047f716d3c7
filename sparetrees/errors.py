"""All errors that this package raises."""


class TreeError(ValueError):
    """What every error of this package is."""


class NoNet(TreeError):
    """For what is no Net."""


class NoLot(TreeError):
    """For what is no lot of links, or of ties."""


class NoSide(TreeError):
    """For what is no side."""


class NoNumber(TreeError):
    """For what is no number, or beyond what is let."""


class NoPlace(TreeError):
    """For what is no place, or the root where it is not let."""


class NoGrown(TreeError):
    """For what is no grown part."""


class NoTree(TreeError):
    """For what is no tree."""


class NoRoots(TreeError):
    """For what is no roots."""


class NoParts(TreeError):
    """For what is no parts."""


class NoWidths(TreeError):
    """For what is no widths."""


class NoWeb(TreeError):
    """For what is no Web."""


class NoParting(TreeError):
    """For what is no parting."""


class NoSpanners(TreeError):
    """For what is no spanners."""


class NotParted(TreeError):
    """For a lot of ties that can't be parted."""


class NoTie(TreeError):
    """For what is no tie that may stand there."""


class NoPrices(TreeError):
    """For what is no prices."""


class NoPrime(TreeError):
    """For what is no prime, or one that is too small."""


class NoFrame(TreeError):
    """For what is no frame."""


class NoHeard(TreeError):
    """For what is no heard words."""


class NoPacking(TreeError):
    """For what is no packing."""


class NoPlan(TreeError):
    """For what is no Plan."""


class NoLosses(TreeError):
    """For what is no losses."""


class NoFrames(TreeError):
    """For what is no frames."""


class Unlike(TreeError):
    """For a plan that is not like another one."""


class NoLink(TreeError):
    """For what is no link that is there."""


class NoPair(TreeError):
    """For what is no pair of unlike places."""


class NoLine(TreeError):
    """For what is no line, or none that can stand there."""


class NoLines(TreeError):
    """For what is no list or tuple of lines."""


class BadNet(TreeError):
    """For what makes no Net: the part that is wrong."""

    def __init__(self, part):
        self.part = part


class BadWeb(TreeError):
    """For what makes no Web: the part that is wrong."""

    def __init__(self, part):
        self.part = part


class Barred(TreeError):
    """For what can't be, as too few links enter the side."""

    def __init__(self, side):
        self.side = side


class TooMany(TreeError):
    """For what would be more than the most that is let."""

    def __init__(self, most):
        self.most = most


class Crossed(TreeError):
    """For what can't be, as too few ties cross the parting."""

    def __init__(self, parting):
        self.parting = parting


class Crowded(TreeError):
    """For what can't be, as too many ties lie within the lot of places."""

    def __init__(self, lot):
        self.lot = lot


class Resting(TreeError):
    """For a frame while the source rests: the beats that are left."""

    def __init__(self, left):
        self.left = left
