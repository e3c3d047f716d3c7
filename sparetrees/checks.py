"""What things are. Each of these may be asked of any object."""

from sparetrees.errors import NoNumber, NoPlace


def is_integer(thing):
    """Whether a thing is an integer, which a flag is not."""
    return isinstance(thing, int) and not isinstance(thing, bool)


def is_between(thing, least, most):
    """Whether a thing is an integer from least to most."""
    return is_integer(thing) and least <= thing and thing <= most


def need_between(thing, least, most):
    """Raise NoNumber unless a thing is an integer from least to most."""
    if not is_between(thing, least, most):
        raise NoNumber()


def is_lot(thing, bound):
    """Whether a thing is a lot of numbers below a bound."""
    if not isinstance(thing, tuple):
        return False
    least = 0
    for item in thing:
        if not is_between(item, least, bound - 1):
            return False
        least = item + 1
    return True


def is_unlike_pair(thing, bound):
    """Whether a thing is a pair of unlike numbers below a bound."""
    if not isinstance(thing, tuple) or len(thing) != 2:
        return False
    first, second = thing
    if not is_between(first, 0, bound - 1) or not is_between(second, 0, bound - 1):
        return False
    return first != second


def need_place(whole, thing):
    """Raise NoPlace unless a thing is a place of a Net or a Web."""
    if not is_between(thing, 0, whole.many - 1):
        raise NoPlace()


def share_none(lots):
    """Whether no two of some lots have an item in common."""
    items = [item for lot in lots for item in lot]
    return len(set(items)) == len(items)


def is_within(few, lot):
    """Whether all items of one lot are in another one."""
    return len([item for item in few if item in lot]) == len(few)
