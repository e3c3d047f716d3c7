"""Plans, losses and frames for the tests, and a timetable of all words apart from the package."""

import random

from sparetrees.errors import NoPlan
from sparetrees.nets import Net
from sparetrees.plans import Plan
from sparetrees.ties import Web
from tests.samples import odd_things, random_tree_pairs

PRIMES = [number for number in range(5, 252) if all(number % less for less in range(2, number))]
NO_PRIMES = [0, 1, 2, 3, 4, 6, 9, 15, 25, 249, 250, 253, 257, -5, 10 ** 59, True, False, None, "5", (5,), [5], {5: 5}]


def sized_plan(net, pairs_of_trees, size):
    """A plan of trees that are told by their links."""
    return Plan(net, tuple(tuple(sorted(tree)) for tree in pairs_of_trees), size)


def random_plan(chance, many, trees, more=0, size=None, root=None):
    """A plan of so many random trees, its net's links being theirs and some more, in any order."""
    root = chance.randrange(many) if root is None else root
    rows = [(tree, pair) for tree in range(trees) for pair in random_tree_pairs(chance, many, root)]
    rows += [(None, tuple(chance.sample(range(many), 2))) for _ in range(more)]
    chance.shuffle(rows)
    net = Net(many, root, tuple(pair for _, pair in rows))
    lots = [[link for link, (owner, _) in enumerate(rows) if owner == tree] for tree in range(trees)]
    return sized_plan(net, lots, size or chance.randrange(1, min(8, trees) + 1))


def line_plan(many, trees, size, more=()):
    """A plan of so many trees that all go from place to place, so as deep as can be."""
    pairs = [(place, place + 1) for _ in range(trees) for place in range(many - 1)]
    lots = [range(tree * (many - 1), (tree + 1) * (many - 1)) for tree in range(trees)]
    return sized_plan(Net(many, 0, tuple(pairs) + tuple(more)), lots, size)


def star_plan(many, trees, size):
    """A plan of so many trees that all go straight from the root, so as flat as can be."""
    pairs = [(0, place) for _ in range(trees) for place in range(1, many)]
    lots = [range(tree * (many - 1), (tree + 1) * (many - 1)) for tree in range(trees)]
    return sized_plan(Net(many, 0, tuple(pairs)), lots, size)


def plans(seed=30, count=40):
    """Plans of two to ten places and one to twelve trees, the same in every run."""
    chance = random.Random(seed)
    found = [line_plan(2, 1, 1), line_plan(10, 6, 4), star_plan(6, 12, 8), star_plan(2, 12, 1), line_plan(4, 3, 3)]
    for _ in range(count):
        many = chance.randrange(2, 8)
        trees = chance.randrange(1, min(12, 54 // (many - 1)) + 1)
        found.append(random_plan(chance, many, trees, chance.randrange(6)))
    return found


def no_plans():
    """Things that are no Plan."""
    net = Net(2, 0, ((0, 1),))
    return odd_things() + [0, 1, (), net, ((0,),), (net, ((0,),), 1), Web(2, ()), NoPlan(), Plan]


def no_places(net):
    """Things that are no place of a net."""
    return odd_things() + [net.many, net.many + 1, -net.many, (0,), [0], 10 ** 59, net, "1"]


def no_lots(net):
    """Things that are no lot of a net's links."""
    links = len(net.links)
    return odd_no_lots(links) + [(links,), (0, links), (0, 0), (-1,), [0], [], 0, {0: 1}, (0, True), (False,), net]


def odd_no_lots(links):
    return [thing for thing in odd_things() if not is_lot_apart(thing, links)]


def is_lot_apart(thing, bound):
    if type(thing) is not tuple or any(type(item) is not int for item in thing):
        return False
    return all(0 <= item < bound for item in thing) and all(one < other for one, other in zip(thing, thing[1:]))


def way_apart(plan, tree, place):
    """The links, the first one from the root, that lead to a place in a tree, found back from the place."""
    way = []
    while place != plan.of_net.root:
        link, = [link for link in plan.by_trees[tree] if plan.of_net.links[link][1] == place]
        way.insert(0, link)
        place = plan.of_net.links[link][0]
    return way


def depth_of_links(plan):
    """The dict of the depths of all links of the trees."""
    return {link: len(way_apart(plan, tree, plan.of_net.links[link][1]))
            for tree, lot in enumerate(plan.by_trees) for link in lot}


def word_apart(prime, frame, number):
    return sum(value * number ** power for power, value in enumerate(frame)) % prime


def prime_for(chance, plan):
    return chance.choice([prime for prime in PRIMES if prime >= len(plan.by_trees)])


def random_frame(chance, prime, size):
    return tuple(chance.randrange(prime) for _ in range(size))


def random_frames(chance, prime, size, count):
    return tuple(random_frame(chance, prime, size) for _ in range(count))


def some_links(chance, net, percent):
    return tuple(link for link in range(len(net.links)) if chance.randrange(100) < percent)


def random_losses(chance, net, lots, percent):
    return tuple(some_links(chance, net, percent) for _ in range(lots))


def lot_in(losses, beat):
    """What is lost in a beat, the last lot going on for ever."""
    rows = list(losses) or [()]
    return rows[beat] if beat < len(rows) else rows[-1]


class Timetable:
    """What is heard of frames that left, each word reckoned along its way on its own."""

    def __init__(self, plan, prime):
        self.net = plan.of_net
        self.size = plan.of_size
        self.prime = prime
        self.left = []
        self.lost = []
        self.table = {}

    def leave(self, plan, frame):
        """A frame leaves in the next beat."""
        self.left.append((plan, len(self.lost), frame))

    def links_of(self, plan):
        """Of a plan, tree by tree, the ways to all places."""
        for known, ways in self.table.values():
            if known is plan:
                return ways
        ways = [[way_apart(plan, tree, place) for place in range(plan.of_net.many)]
                for tree in range(len(plan.by_trees))]
        self.table[len(self.table)] = (plan, ways)
        return ways

    def came(self, number, tree, place):
        """The beat at which a word is heard, None if it is not by now."""
        plan, beat, _ = self.left[number]
        for link in self.links_of(plan)[tree][place]:
            if beat >= len(self.lost) or link in self.lost[beat]:
                return None
            beat += 1
        return beat

    def words(self, place):
        """All (beat, frame, tree, word) that were heard at a place by now."""
        found = []
        for number, (plan, _, frame) in enumerate(self.left):
            for tree in range(len(plan.by_trees)):
                beat = self.came(number, tree, place)
                if beat is not None:
                    found.append((beat, number, tree, word_apart(self.prime, frame, tree)))
        return found

    def fresh(self):
        """What the last beat tells."""
        rows = []
        for place in range(self.net.many):
            now = len(self.lost) - (place == self.net.root)
            rows.append(tuple(sorted(word[1:] for word in self.words(place) if word[0] == now)))
        return tuple(rows)

    def heard(self, place):
        found = {}
        for _, number, tree, word in self.words(place):
            found.setdefault(number, {})[tree] = word
        return found

    def row(self, place):
        heard = self.heard(place)
        frames = [frame for _, _, frame in self.left]
        return tuple(frame for number, frame in enumerate(frames)
                     if all(len(heard.get(less, ())) >= self.size for less in range(number + 1)))

    def room(self, place):
        return sum(1 for words in self.heard(place).values() if len(words) < self.size)

    def busy(self):
        """The list of the links that have a word, of frames that left, to carry in the next beat."""
        found = []
        for number, (plan, beat, _) in enumerate(self.left):
            for tree, ways in enumerate(self.links_of(plan)):
                for way in ways:
                    if way and beat + len(way) - 1 == len(self.lost):
                        start = plan.of_net.links[way[-1]][0]
                        if self.came(number, tree, start) == len(self.lost):
                            found.append(way[-1])
        return found


def random_packing(chance, net, lot, many):
    """So many random trees within a lot of links that share none, None if it does not come off."""
    rest, trees = list(lot), []
    for _ in range(many):
        heard, tree = {net.root}, []
        while len(heard) < net.many:
            free = [link for link in rest if net.links[link][0] in heard and net.links[link][1] not in heard]
            if not free:
                return None
            tree.append(chance.choice(free))
            rest.remove(tree[-1])
            heard.add(net.links[tree[-1]][1])
        trees.append(tuple(sorted(tree)))
    return tuple(trees)


def like_plans(chance, count, most_trees=4):
    """So many plans that are like one another, over one row of links of which their nets have a beginning."""
    many = chance.randrange(2, 7)
    root = chance.randrange(many)
    trees = chance.randrange(1, most_trees + 1)
    pairs = [pair for _ in range(trees) for pair in random_tree_pairs(chance, many, root)]
    pairs += [tuple(chance.sample(range(many), 2)) for _ in range(chance.randrange(3, 12))]
    size = chance.randrange(1, trees + 1)
    found = []
    while len(found) < count:
        net = Net(many, root, tuple(pairs[:chance.randrange(trees * (many - 1), len(pairs) + 1)]))
        packed = random_packing(chance, net, range(len(net.links)), chance.randrange(size, trees + 1))
        if packed is not None:
            found.append(Plan(net, packed, size))
    return found


def words_of_links(plan, beats):
    """All (link, beat) in which a link carries a word, a frame leaving in each of some beats."""
    depths = depth_of_links(plan)
    return [(link, beat + depths[link] - 1) for link in depths for beat in beats]


def goes_together(elder, newer, rest):
    """Whether no link has two words in one beat, frames going by the elder plan, then, behind a rest, by the newer."""
    long = elder.of_net.many + newer.of_net.many
    elder_words = words_of_links(elder, range(long))
    newer_words = words_of_links(newer, range(long + rest, 2 * long + rest))
    return not set(elder_words) & set(newer_words)


def rest_apart(elder, newer):
    return next(rest for rest in range(100) if goes_together(elder, newer, rest))
