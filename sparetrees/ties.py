"""Two-way nets: lots of ties that span all places, and the partings that let no more of them be."""

from sparetrees.checks import is_between, is_lot, is_unlike_pair, need_between, need_place, share_none
from sparetrees.errors import BadWeb, Crossed, NoParting, NoSpanners, NoWeb
from sparetrees.nets import Net

FEWEST_PLACES = 2
MOST_PLACES = 9
MOST_TIES = 30
MOST_SPANNERS = 10


def is_tie(thing, many):
    """Whether a thing is a pair of two of so many places, the lesser one first."""
    if not is_unlike_pair(thing, many):
        return False
    return thing[0] < thing[1]


class Web:
    """Places, and two-way ties between them."""

    def __init__(self, many, ties):
        if not is_between(many, FEWEST_PLACES, MOST_PLACES):
            raise BadWeb("many")
        if not isinstance(ties, tuple) or len(ties) > MOST_TIES:
            raise BadWeb("ties")
        for number, tie in enumerate(ties):
            if not is_tie(tie, many):
                raise BadWeb(number)
        self.many = many
        self.ties = ties

    def __eq__(self, other):
        return isinstance(other, Web) and self.many == other.many and self.ties == other.ties


def need_web(thing):
    """Raise NoWeb unless a thing is a Web."""
    if not isinstance(thing, Web):
        raise NoWeb()


def every_tie(web):
    """The lot of all ties."""
    return tuple(range(len(web.ties)))


def way_between(web, lot, start, goal):
    """The list of the ties of a lot on a way between two places, None if there is no way."""
    ways = {start: []}
    waiting = [start]
    while len(waiting) > 0:
        here = waiting.pop(0)
        for tie in lot:
            if here in web.ties[tie]:
                first, second = web.ties[tie]
                there = second if here == first else first
                if there not in ways:
                    ways[there] = ways[here] + [tie]
                    waiting.append(there)
    return ways.get(goal)


def is_spanning(web, thing):
    """Whether a thing is a lot of ties that spans."""
    need_web(web)
    if not is_lot(thing, len(web.ties)) or len(thing) != web.many - 1:
        return False
    for place in range(1, web.many):
        if way_between(web, thing, 0, place) is None:
            return False
    return True


def are_spanners(web, thing):
    """Whether a thing is a tuple of spanning lots no two of which have a tie in common."""
    need_web(web)
    if not isinstance(thing, tuple):
        return False
    for lot in thing:
        if not is_spanning(web, lot):
            return False
    return share_none(thing)


def is_parting(web, thing):
    """Whether a thing is a parting."""
    if not isinstance(thing, tuple) or len(thing) < 2:
        return False
    for lot in thing:
        if not is_lot(lot, web.many) or len(lot) == 0:
            return False
    places = [place for lot in thing for place in lot]
    return sorted(places) == list(range(web.many)) and sorted(thing) == list(thing)


def all_partings(web):
    """The list of all partings, of fewer lots first, those of as many by the order of tuples."""
    rows = [((0,),)]
    for place in range(1, web.many):
        alone = [row + ((place,),) for row in rows]
        beside = [row[:at] + (row[at] + (place,),) + row[at + 1:] for row in rows for at in range(len(row))]
        rows = alone + beside
    counted = sorted([(len(row), row) for row in rows if len(row) > 1])
    return [pair[1] for pair in counted]


def ties_across(web, parting):
    """The lot of the ties that cross a parting, which is not checked."""
    home = {place: number for number, lot in enumerate(parting) for place in lot}
    crossed = []
    for tie, ends in enumerate(web.ties):
        if home[ends[0]] != home[ends[1]]:
            crossed.append(tie)
    return tuple(crossed)


def crossing(web, parting):
    """The lot of the ties whose places lie in unlike lots of a parting."""
    need_web(web)
    if not is_parting(web, parting):
        raise NoParting()
    return ties_across(web, parting)


def is_too_thin(web, many, parting):
    """Whether fewer ties cross a parting than so many spanners need."""
    return len(ties_across(web, parting)) < many * (len(parting) - 1)


def is_crossed(web, many, thing):
    """Whether a thing is a parting that too few ties cross for so many spanners."""
    need_web(web)
    need_between(many, 0, MOST_SPANNERS)
    return is_parting(web, thing) and is_too_thin(web, many, thing)


def first_crossed(web, many):
    """The first parting that too few ties cross for so many spanners, None if there is none."""
    for parting in all_partings(web):
        if is_too_thin(web, many, parting):
            return parting
    return None


class Forests:
    """So many lots of ties without rings, each tie being in at most one.

    A further tie is taken, if there is any way to, by moving others from lot to lot: a tie may take
    the place of one with which it closes a ring in a lot, and that one goes to another lot.
    """

    def __init__(self, web, many):
        self.web = web
        self.lots = [[] for _ in range(many)]

    def ring(self, lot, tie):
        """The list of the ties of a lot that close a ring with a tie, None if none do."""
        first, second = self.web.ties[tie]
        return way_between(self.web, lot, first, second)

    def place_for(self, tie):
        """The number of the first lot in which a tie closes no ring, None if there is none."""
        for number, lot in enumerate(self.lots):
            if self.ring(lot, tie) is None:
                return number
        return None

    def rivals(self, tie):
        """The list of the ties whose places, in some lot, a tie could take that closes a ring in each."""
        return [other for lot in self.lots for other in self.ring(lot, tie)]

    def take(self, tie):
        """Take a further tie, and tell None; or else, changing nothing, the lot of ties that it closes.

        That lot is of this tie, and of those that could leave the lots so that this one gets in.
        """
        came = {tie: None}
        waiting = [tie]
        while len(waiting) > 0:
            here = waiting.pop(0)
            number = self.place_for(here)
            if number is not None:
                self.move(came, here, number)
                return None
            for other in self.rivals(here):
                if other not in came:
                    came[other] = here
                    waiting.append(other)
        return tuple(sorted(came))

    def move(self, came, tie, number):
        """Put a tie into a lot, the one by which it was come to where it was, and so on."""
        while tie is not None:
            was = self.home(tie)
            if was is not None:
                self.lots[was].remove(tie)
            self.lots[number].append(tie)
            number = was
            tie = came[tie]

    def home(self, tie):
        """The number of the lot that has a tie, None if none has."""
        for number, lot in enumerate(self.lots):
            if tie in lot:
                return number
        return None

    def as_lots(self):
        """The tuple of the lots."""
        return tuple([tuple(sorted(lot)) for lot in self.lots])


def take_each(forests, ties):
    """The lot of those of some ties that are taken, each in its turn."""
    taken = []
    for tie in ties:
        if forests.take(tie) is None:
            taken.append(tie)
    return tuple(sorted(taken))


def spanners_of(web, many):
    """So many spanners, None if there are not so many."""
    forests = Forests(web, many)
    taken = take_each(forests, every_tie(web))
    # Lots without rings of so many ties together have places - 1 ties each: so each of them spans.
    if len(taken) < many * (web.many - 1):
        return None
    return forests.as_lots()


def spanners(web, many):
    """So many spanners."""
    need_web(web)
    need_between(many, 0, MOST_SPANNERS)
    found = spanners_of(web, many)
    if found is None:
        raise Crossed(first_crossed(web, many))
    return found


def strength(web):
    """The greatest number of spanners."""
    need_web(web)
    many = len(web.ties) // (web.many - 1)
    while spanners_of(web, many) is None:
        many = many - 1
    return many


def net_of(web, place):
    """The Net with this root in which each tie is two links, there and back."""
    need_web(web)
    need_place(web, place)
    links = []
    for first, second in web.ties:
        links.append((first, second))
        links.append((second, first))
    return Net(web.many, place, tuple(links))


def tree_of(web, lot, place):
    """The tree of net_of whose links are those of a spanning lot, each leading away from a place."""
    links = []
    heard = [place]
    while len(heard) < web.many:
        for tie in lot:
            first, second = web.ties[tie]
            if first in heard and second not in heard:
                links.append(2 * tie)
                heard.append(second)
            elif second in heard and first not in heard:
                links.append(2 * tie + 1)
                heard.append(first)
    return tuple(sorted(links))


def led_from(web, spanners, place):
    """The packing of net_of whose trees are the spanners, each tie leading away from a place."""
    need_web(web)
    if not are_spanners(web, spanners):
        raise NoSpanners()
    need_place(web, place)
    return tuple([tree_of(web, lot, place) for lot in spanners])
