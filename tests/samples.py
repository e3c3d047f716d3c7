"""Nets and things for the tests, and a going through all sides apart from the package."""

import functools
import random

from sparetrees.errors import NoNet
from sparetrees.nets import Net
from sparetrees.ties import Web


def deep(make, levels):
    thing = ()
    for _ in range(levels):
        thing = make(thing)
    return thing


def odd_things():
    """Things of many kinds, none of which is a Net, a number, a lot of links or a side."""
    return [
        None, True, False, -1, -(10 ** 60) + 1, 10 ** 60 - 1, "", "0", "many", "\n", b"", b"\x00",
        bytearray(b"\x01"), memoryview(b"\x01"), [], [0], [1], [0, 1], [[0]], {}, {0: 1}, {1: True},
        {(): []}, range(0), range(1, 2), slice(0, 1), Ellipsis, NotImplemented, int, tuple, Net, len,
        odd_things, lambda: 0, object(), iter((1,)), (x for x in (1,)), {0: 1}.keys(), {0: 1}.values(),
        {0: 1}.items(), zip((1,), (2,)), enumerate((1,)), map(len, ((),)), reversed((1,)), NoNet(),
        property(len), "x".join, (True,), (False,), (1, True), (False, 1), (-1,), (0, -1), (1, 0), (1, 1),
        (0, 0), (2, 1), (10 ** 60 - 1,), (1, 10 ** 60 - 1), (60,), ("0",), ("",), (b"\x01",), (None,),
        ((),), ((0,),), ((1, 2),), ([1],), ({},), (Ellipsis,), (NotImplemented,), (Net,),
        (1, None), (1, "2"), (1, (2,)), (1, [2]), (Net(2, 0, ()),),
        deep(lambda inner: (inner,), 39), deep(lambda inner: [inner], 39),
        deep(lambda inner: {0: inner}, 39), deep(lambda inner: (1, inner), 39),
        deep(lambda inner: (inner, inner), 14), (0,) * 59000, [0] * 59000, tuple(range(59000)),
        ((),) * 59000, "x" * 20000, {number: number for number in range(29000)},
    ]


def going_through(net):
    """All sides, fewest first, found apart from the package."""
    found = []
    for mask in range(1, 2 ** net.many):
        side = tuple(place for place in range(net.many) if mask >> place & 1)
        if net.root not in side:
            found.append(side)
    return sorted(found, key=lambda side: (len(side), side))


def enters(net, link, places):
    start, end = net.links[link]
    return start not in places and end in places


def count_of(net, lot, places):
    return sum(1 for link in lot if enters(net, link, places))


def random_net(chance, many, links):
    root = chance.randrange(many)
    pairs = []
    while len(pairs) < links:
        pair = (chance.randrange(many), chance.randrange(many))
        if pair[0] != pair[1]:
            pairs.append(pair)
    return Net(many, root, tuple(pairs))


def random_lot(chance, net):
    share = chance.choice([0, 30, 60, 90, 100])
    return tuple(link for link in range(len(net.links)) if chance.randrange(100) < share)


def nets_and_lots():
    """Pairs of a net and a lot of its links, the same in every run."""
    chance = random.Random(20)
    pairs = []
    for many in range(2, 11):
        for links in (0, 1, many, 2 * many, 4 * many, 60):
            net = random_net(chance, many, links)
            pairs.append((net, tuple(range(links))))
            pairs.append((net, random_lot(chance, net)))
    for _ in range(60):
        net = random_net(chance, chance.randrange(3, 7), chance.randrange(4, 25))
        pairs.append((net, random_lot(chance, net)))
    return pairs


def line_net():
    """Root 0; 0 -> 1 twice, 1 -> 2 twice, 2 -> 3, and links back."""
    return Net(4, 0, ((0, 1), (0, 1), (1, 2), (1, 2), (2, 3), (3, 0), (2, 1), (3, 1)))


def going_through_lots(many):
    """All lots of numbers below many but the empty one, fewest first, found apart from the package."""
    found = [tuple(place for place in range(many) if mask >> place & 1) for mask in range(1, 2 ** many)]
    return sorted(found, key=lambda lot: (len(lot), lot))


def subsets(items):
    """All lots of some ascending items, the empty one among them."""
    return [tuple(item for at, item in enumerate(items) if mask >> at & 1) for mask in range(2 ** len(items))]


def grows_apart(net, begun, lot):
    """Whether a lot of links enters each of its places once, none of the begun, all from these."""
    ends = [net.links[link][1] for link in lot]
    if len(set(ends)) != len(ends) or set(ends) & set(begun):
        return False
    heard = set(begun)
    for _ in lot:
        heard |= {net.links[link][1] for link in lot if net.links[link][0] in heard}
    return heard == set(begun) | set(ends)


def wood_apart(net, begun, lot):
    return grows_apart(net, begun, lot) and len(begun) + len(lot) == net.many


def tree_apart(net, lot):
    return wood_apart(net, (net.root,), lot)


def no_link_twice(lots):
    links = [link for lot in lots for link in lot]
    return len(set(links)) == len(links)


def random_tree_pairs(chance, many, root):
    """Links of a tree, in any order, none of which is numbered yet."""
    heard = [root]
    others = [place for place in range(many) if place != root]
    chance.shuffle(others)
    pairs = []
    for place in others:
        pairs.append((chance.choice(heard), place))
        heard.append(place)
    return pairs


def net_of_trees(chance, many, trees, more):
    """A net whose links are those of so many trees and some more, put in any order."""
    root = chance.randrange(many)
    pairs = [pair for _ in range(trees) for pair in random_tree_pairs(chance, many, root)]
    for _ in range(more):
        pairs.append(tuple(chance.sample(range(many), 2)))
    chance.shuffle(pairs)
    return Net(many, root, tuple(pairs))


def rich_nets():
    """Nets that hold packings of many trees, with up to ten places and sixty links."""
    chance = random.Random(21)
    nets = []
    for many in range(2, 11):
        most = min(12, 60 // (many - 1))
        for trees in sorted({1, 2, most // 2, most}):
            nets.append(net_of_trees(chance, many, trees, 0))
            nets.append(net_of_trees(chance, many, trees, min(5, 60 - trees * (many - 1))))
    for _ in range(40):
        nets.append(net_of_trees(chance, chance.randrange(3, 6), chance.randrange(0, 4), chance.randrange(6)))
    return nets


def small_nets(chance, count, most_places, most_links):
    """Nets that are small enough for a going through all lots of links."""
    return [random_net(chance, chance.randrange(2, most_places + 1), chance.randrange(most_links + 1))
            for _ in range(count)]


def random_web(chance, many, ties):
    pairs = [tuple(sorted(chance.sample(range(many), 2))) for _ in range(ties)]
    return Web(many, tuple(pairs))


def web_of_spanners(chance, many, spanners, more):
    """A web whose ties are those of so many spanners and some more, put in any order."""
    pairs = [tuple(sorted(pair)) for _ in range(spanners) for pair in random_tree_pairs(chance, many, 0)]
    pairs += [tuple(sorted(chance.sample(range(many), 2))) for _ in range(more)]
    chance.shuffle(pairs)
    return Web(many, tuple(pairs))


def webs():
    """Webs of up to nine places and thirty ties, the same in every run."""
    chance = random.Random(22)
    found = []
    for many in range(2, 10):
        for ties in (0, 1, many - 1, 2 * many, 30):
            found.append(random_web(chance, many, ties))
        most = min(10, 30 // (many - 1))
        for spanners in sorted({1, most // 2, most}):
            found.append(web_of_spanners(chance, many, spanners, 0))
            found.append(web_of_spanners(chance, many, spanners, min(4, 30 - spanners * (many - 1))))
    return found


def small_webs(chance, count, most_places, most_ties):
    """Webs that are small enough for a going through all lots of ties."""
    found = []
    for _ in range(count):
        many = chance.randrange(2, most_places + 1)
        found.append(random_web(chance, many, chance.randrange(most_ties + 1)))
    return found


def pieces(web, lot):
    """How many pieces a lot of ties leaves the places in."""
    name = list(range(web.many))
    for tie in lot:
        one, other = (name[place] for place in web.ties[tie])
        name = [one if held == other else held for held in name]
    return len(set(name))


def spans_apart(web, lot):
    return len(lot) == web.many - 1 and pieces(web, lot) == 1


@functools.lru_cache(maxsize=None)
def partings_apart(many):
    """All partings of so many places, in their order, by numbers of lots told place by place."""
    rows = [[0]]
    for _ in range(many - 1):
        rows = [row + [number] for row in rows for number in range(max(row) + 2)]
    partings = []
    for row in rows:
        lots = [tuple(place for place in range(many) if row[place] == number) for number in range(max(row) + 1)]
        if len(lots) > 1:
            partings.append(tuple(sorted(lots)))
    return sorted(partings, key=lambda parting: (len(parting), parting))


def crossed_apart(web, parting):
    held = {place: lot for lot in parting for place in lot}
    return tuple(tie for tie, (one, other) in enumerate(web.ties) if other not in held[one])


def thin_partings(web, many):
    return [parting for parting in partings_apart(web.many)
            if len(crossed_apart(web, parting)) < many * (len(parting) - 1)]


def parts_apart(web, many, lot):
    """Whether a lot of ties can be put, tie by tie, into so many lots without rings, all choices tried."""
    def go_on(rest, lots):
        if not rest:
            return True
        for at, held in enumerate(lots):
            if pieces(web, held + rest[:1]) == web.many - len(held) - 1:
                if go_on(rest[1:], lots[:at] + (held + rest[:1],) + lots[at + 1:]):
                    return True
            # One empty lot is as good as another one.
            if not held:
                return False
        return False

    return go_on(tuple(lot), ((),) * many)
