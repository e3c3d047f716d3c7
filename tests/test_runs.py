import random
import unittest

from sparetrees.errors import (
    Barred, NoFrame, NoLink, NoLot, NoNet, NoNumber, NoPair, NoPlace, NoPrime, Resting, TooMany)
from sparetrees.nets import Net
from sparetrees.plans import Plan, plan_for
from sparetrees.runs import Runs
from tests.plan_samples import (
    NO_PRIMES, PRIMES, Timetable, no_lots, no_places, random_frame, rest_apart, some_links)
from tests.samples import count_of, going_through, net_of_trees, no_link_twice, odd_things, tree_apart


def first_barred(net, lot, many):
    return next((side for side in going_through(net) if count_of(net, lot, side) < many), None)


class Model:
    """A Runs, and what is to come of it; which packings it turns to is its own choice."""

    def __init__(self, case, net, size, spare, prime):
        self.case, self.net, self.size, self.many, self.prime = case, net, size, size + spare, prime
        self.runs = Runs(net, size, spare, prime)
        self.there = list(range(len(net.links)))
        self.newest = self.runs.plan()
        self.timetable = Timetable(self.newest, prime)
        self.gone = []
        self.book = []
        self.need_plan()

    def copied(self):
        other = Model(self.case, self.net, self.size, self.many - self.size, self.prime)
        other.runs = self.runs.copy()
        other.there, other.gone, other.book = list(self.there), list(self.gone), list(self.book)
        other.newest = self.newest
        other.timetable.left, other.timetable.lost = list(self.timetable.left), list(self.timetable.lost)
        return other

    def need_plan(self):
        """The newest plan is of the net of all links that ever were, and of links that are there."""
        plan, case = self.newest, self.case
        case.assertEqual((plan.of_net, plan.of_size, len(plan.by_trees)), (self.net, self.size, self.many))
        case.assertTrue(all(tree_apart(plan.of_net, tree) for tree in plan.by_trees))
        case.assertTrue(no_link_twice(plan.by_trees))
        case.assertTrue({link for tree in plan.by_trees for link in tree} <= set(self.there))

    def rests(self):
        now = len(self.timetable.lost)
        return max([0] + [beat + 1 + rest_apart(plan, self.newest) - now for plan, beat in self.gone])

    def note(self, word, passed, beats=None):
        beats = len(self.timetable.lost) if beats is None else beats
        self.book.append((word, beats, passed, self.rests()))

    def turned(self):
        self.newest = self.runs.plan()
        self.need_plan()

    def beat(self, frame, lost):
        if frame is not None and self.rests() > 0:
            with self.case.assertRaises(Resting) as caught:
                self.runs.beat(frame, lost)
            self.case.assertEqual(caught.exception.left, self.rests())
            return
        ahead = len(self.timetable.lost)
        if frame is not None:
            self.gone = [pair for pair in self.gone if pair[0] != self.newest] + [(self.newest, ahead)]
            self.timetable.leave(self.newest, frame)
        gone = [link for link in range(len(self.net.links)) if link not in self.there]
        self.timetable.lost.append(tuple(lost) + tuple(gone))
        self.case.assertEqual(self.runs.beat(frame, lost), self.timetable.fresh())
        self.note("beat", frame, ahead)

    def drop(self, link):
        rest = [other for other in self.there if other != link]
        side = first_barred(self.net, rest, self.many)
        used = [other for tree in self.newest.by_trees for other in tree]
        if side is not None:
            with self.case.assertRaises(Barred) as caught:
                self.runs.drop(link)
            self.case.assertEqual(caught.exception.side, side)
            return
        self.case.assertIsNone(self.runs.drop(link))
        self.there = rest
        if link in used:
            self.turned()
        self.note("drop", link)

    def add(self, pair):
        number = len(self.net.links)
        self.case.assertEqual(self.runs.add(pair), number)
        self.net = Net(self.net.many, self.net.root, self.net.links + (pair,))
        self.there = self.there + [number]
        self.note("add", pair)

    def renew(self):
        self.case.assertIsNone(self.runs.renew())
        self.turned()
        self.note("renew", None)

    def check(self):
        case, runs = self.case, self.runs
        case.assertEqual(runs.there(), tuple(self.there))
        case.assertEqual(runs.plan(), self.newest)
        case.assertEqual(runs.rests(), self.rests())
        case.assertEqual(runs.beats(), len(self.timetable.lost))
        case.assertEqual(runs.book(), self.book)
        for place in range(self.net.many):
            case.assertEqual(runs.row(place), self.timetable.row(place))

    def step(self, chance, percent):
        choice = chance.randrange(20)
        if choice < 3:
            self.drop(chance.choice(self.there))
        elif choice < 6 and len(self.net.links) < 60:
            self.add(tuple(chance.sample(range(self.net.many), 2)))
        elif choice == 6:
            self.renew()
        else:
            lost = some_links(chance, self.net, percent)
            self.beat(random_frame(chance, self.prime, self.size) if choice < 16 else None, lost)
        self.check()


def models(case, chance, count):
    for _ in range(count):
        size, spare = chance.randrange(1, 3), chance.randrange(0, 3)
        net = net_of_trees(chance, chance.randrange(2, 6), size + spare, chance.randrange(0, 5))
        yield Model(case, net, size, spare, chance.choice(PRIMES))


def three_links(trees=1):
    """Three links from place 0 to place 1."""
    return Runs(Net(2, 0, ((0, 1),) * 3), 1, trees - 1, 5)


class RunsTest(unittest.TestCase):

    def test_against_a_timetable(self):
        chance = random.Random(120)
        words, barred = [], 0
        for model in models(self, chance, 40):
            model.check()
            percent = chance.choice([0, 5, 30])
            for _ in range(25):
                model.step(chance, percent)
            words += [note[0] for note in model.book]
        for word in ("beat", "drop", "add", "renew"):
            self.assertGreater(words.count(word), 15)

    def test_a_copy_and_its_book_go_on_apart(self):
        chance = random.Random(121)
        for model in models(self, chance, 12):
            for _ in range(10):
                model.step(chance, 10)
            other = model.copied()
            self.assertIs(other.runs.__class__, Runs)
            other.check()
            for _ in range(8):
                chance.choice([model, other]).step(chance, 10)
                model.check()
                other.check()

    def test_a_small_one(self):
        runs = three_links(2)
        plan = runs.plan()
        self.assertEqual((runs.there(), runs.beats(), runs.rests(), runs.book()), ((0, 1, 2), 0, 0, []))
        self.assertEqual(runs.beat((4,), ()), (((0, 0, 4), (0, 1, 4)), ((0, 0, 4), (0, 1, 4))))
        used = [tree[0] for tree in plan.by_trees]
        free, = set(range(3)) - set(used)
        runs.drop(free)
        self.assertEqual((runs.plan(), runs.there()), (plan, tuple(sorted(used))))
        with self.assertRaises(Barred) as caught:
            runs.drop(used[0])
        self.assertEqual(caught.exception.side, (1,))
        self.assertRaises(NoLink, runs.drop, free)
        self.assertEqual(runs.add((0, 1)), 3)
        self.assertEqual(runs.plan(), plan)
        runs.drop(used[0])
        newer = runs.plan()
        self.assertEqual(sorted(newer.by_trees), sorted([(used[1],), (3,)]))
        self.assertEqual(newer.of_net, Net(2, 0, ((0, 1),) * 4))
        self.assertEqual(runs.there(), tuple(sorted([used[1], 3])))
        self.assertEqual(runs.beat((2,), (0, 1, 2, 3)), (((1, 0, 2), (1, 1, 2)), ()))
        self.assertEqual(len(runs.beat((1,), (0, 1, 2))[1]), 1)
        self.assertEqual(runs.row(1), ((4,),))
        self.assertEqual(runs.book(), [
            ("beat", 0, (4,), 0), ("drop", 1, free, 0), ("add", 1, (0, 1), 0), ("drop", 1, used[0], 0),
            ("beat", 1, (2,), 0), ("beat", 2, (1,), 0)])

    def test_a_dropped_link_carries_nothing(self):
        # One tree goes by links 0, 1 and 2, each of which has another link beside it.
        net = Net(4, 0, ((0, 1), (1, 2), (2, 3), (0, 1), (1, 2), (2, 3)))
        runs = Runs(net, 1, 0, 5)
        way = sorted(runs.plan().by_trees[0], key=lambda link: net.links[link])
        runs.beat((3,), ())
        runs.drop(way[1])
        # What goes by the elder plan comes to the dropped link and is lost there.
        self.assertEqual(runs.rests(), 0)
        self.assertEqual(runs.beat((4,), ()), (((1, 0, 4),), ((1, 0, 4),), (), ()))
        self.assertEqual(runs.beat(None, ()), ((), (), ((1, 0, 4),), ()))
        self.assertEqual(runs.beat(None, ()), ((), (), (), ((1, 0, 4),)))
        self.assertEqual([runs.row(place) for place in range(4)], [((3,), (4,))] * 2 + [(), ()])

    def test_it_rests_behind_a_drop(self):
        # Links 0, 1 and 2 go in a row; without link 0 place 2 is come to straight, and link 2 is less deep.
        net = Net(4, 0, ((0, 1), (1, 2), (2, 3), (0, 2), (2, 1)))
        runs = Runs(net, 1, 0, 5)
        deep = runs.plan().by_trees == ((0, 1, 2),)
        runs.beat((1,), ())
        runs.drop(0)
        self.assertEqual(runs.plan(), Plan(net, ((2, 3, 4),), 1))
        self.assertEqual(runs.rests(), 1 if deep else 0)
        self.assertEqual(runs.book(), [("beat", 0, (1,), 0), ("drop", 1, 0, runs.rests())])
        rested = 0
        chance = random.Random(122)
        for model in models(self, chance, 60):
            model.beat(random_frame(chance, model.prime, model.size), ())
            for link in list(model.there):
                model.drop(link)
                rested += model.book[-1][3] > 0
                model.beat(random_frame(chance, model.prime, model.size), ())
                model.check()
        self.assertGreater(rested, 3)

    def test_lost_links_behind_the_newest_plan(self):
        # A lot may name links that were put in since, and dropped ones.
        runs = three_links()
        runs.add((1, 0))
        runs.add((0, 1))
        used = runs.plan().by_trees[0][0]
        self.assertEqual(runs.beat((1,), (3, 4)), (((0, 0, 1),), ((0, 0, 1),)))
        self.assertEqual(runs.beat((1,), (used, 3, 4)), (((1, 0, 1),), ()))
        runs.drop(4)
        self.assertEqual(runs.beat((1,), (3, 4)), (((2, 0, 1),), ((2, 0, 1),)))
        self.assertRaises(NoLot, runs.beat, (1,), (5,))
        runs.renew()
        self.assertEqual(runs.plan().of_net, Net(2, 0, ((0, 1),) * 3 + ((1, 0), (0, 1))))
        runs.add((0, 1))
        self.assertEqual(len(runs.beat((1,), (5,))[1]), 1)

    def test_renew_takes_in_what_was_added(self):
        runs = Runs(Net(3, 0, ((0, 1), (1, 2))), 1, 0, 5)
        plan = runs.plan()
        self.assertEqual(plan, plan_for(Net(3, 0, ((0, 1), (1, 2))), 1, 0))
        runs.add((0, 2))
        self.assertEqual((runs.plan(), runs.rests()), (plan, 0))
        runs.drop(1)
        self.assertEqual(runs.plan(), Plan(Net(3, 0, ((0, 1), (1, 2), (0, 2))), ((0, 2),), 1))
        runs.add((2, 1))
        runs.renew()
        self.assertEqual(runs.plan().of_net, Net(3, 0, ((0, 1), (1, 2), (0, 2), (2, 1))))
        self.assertNotIn(1, runs.plan().by_trees[0])
        self.assertEqual([note[0] for note in runs.book()], ["add", "drop", "add", "renew"])

    def test_the_first_barred_side(self):
        # Without one of the links into place 2, place 2 lacks; without link 0 places 1 and 2 do.
        net = Net(3, 0, ((0, 1), (1, 2), (2, 1)))
        runs = Runs(net, 1, 0, 5)
        for link, side in ((1, (2,)), (0, (1, 2))):
            with self.assertRaises(Barred) as caught:
                runs.drop(link)
            self.assertEqual(caught.exception.side, side)
        self.assertEqual((runs.there(), runs.book()), ((0, 1, 2), []))
        runs.drop(2)
        self.assertEqual(runs.there(), (0, 1))
        self.assertRaises(NoLink, runs.drop, 2)

    def test_sixty_links_in_all(self):
        runs = three_links()
        for number in range(3, 60):
            self.assertEqual(runs.add((1, 0)), number)
        for _ in range(2):
            with self.assertRaises(TooMany) as caught:
                runs.add((0, 1))
            self.assertEqual(caught.exception.most, 60)
            # Links that were dropped count still.
            runs.drop(runs.there()[-1])
        # NoPair comes ahead of TooMany.
        self.assertRaises(NoPair, runs.add, (1, 1))
        self.assertEqual(len(runs.book()), 59)
        self.assertEqual(runs.there(), tuple(range(58)))

    def test_books_are_new(self):
        runs = three_links()
        runs.beat((1,), ())
        found = runs.book()
        found.append("more")
        found[0] = None
        self.assertEqual(runs.book(), [("beat", 0, (1,), 0)])
        self.assertIs(runs.book().__class__, list)
        self.assertIs(runs.book()[0].__class__, tuple)

    def test_it_is_equal_to_itself_alone(self):
        runs = three_links()
        self.assertTrue(runs == runs)
        for other in [runs.copy(), three_links(), runs.plan(), None] + odd_things():
            self.assertFalse(runs == other)


class WrongArgumentsTest(unittest.TestCase):

    def test_in_their_order(self):
        net = Net(2, 0, ((0, 1),) * 3)
        for thing in odd_things() + [0, (), (2, 0, ())]:
            self.assertRaises(NoNet, Runs, thing, "no size", "no spare", "no prime")
        for thing in odd_things() + [0, 9, -1, True, "1", 10 ** 59]:
            self.assertRaises(NoNumber, Runs, net, thing, "no spare", "no prime")
        for size in range(1, 9):
            for thing in odd_things() + [-1, 13 - size, False, "0", 10 ** 59]:
                if type(thing) is not int or not 0 <= thing <= 12 - size:
                    self.assertRaises(NoNumber, Runs, net, size, thing, "no prime")
        for size, spare in ((1, 3), (4, 0), (2, 2), (8, 4)):
            with self.assertRaises(Barred) as caught:
                Runs(net, size, spare, "no prime")
            self.assertEqual(caught.exception.side, (1,))
        for thing in NO_PRIMES + odd_things():
            self.assertRaises(NoPrime, Runs, net, 2, 1, thing)

    def test_primes_of_too_few_words(self):
        net = Net(2, 0, ((0, 1),) * 12)
        for size in range(1, 9):
            for spare in range(13 - size):
                for prime in (5, 7, 11, 13):
                    if prime < size + spare:
                        self.assertRaises(NoPrime, Runs, net, size, spare, prime)
                    else:
                        self.assertEqual(len(Runs(net, size, spare, prime).plan().by_trees), size + spare)

    def state(self, runs):
        return (runs.there(), runs.plan(), runs.rests(), runs.beats(), runs.book(), runs.row(0), runs.row(1))

    def test_wrong_beats(self):
        runs = three_links()
        runs.beat((1,), ())
        before = self.state(runs)
        for thing in [(), (1, 2), (5,), (-1,), [1], 1, "1", (True,), ((1,),), False] + odd_things():
            if thing is not None and thing != (0,):
                self.assertRaises(NoFrame, runs.beat, thing, "no lot")
        for thing in no_lots(Net(2, 0, ((0, 1),) * 3)):
            self.assertRaises(NoLot, runs.beat, (1,), thing)
            self.assertRaises(NoLot, runs.beat, None, thing)
        self.assertEqual(self.state(runs), before)

    def test_resting_comes_between(self):
        net = Net(4, 0, ((0, 1), (1, 2), (2, 3), (0, 2), (2, 1)))
        runs = Runs(net, 1, 0, 5)
        # The packing is the program's own choice: only the deep one has to rest.
        deep = runs.plan().by_trees == ((0, 1, 2),)
        runs.beat((1,), ())
        runs.drop(0)
        before = self.state(runs)
        self.assertRaises(NoFrame, runs.beat, (5,), "no lot")
        with self.assertRaises(Resting if deep else NoLot) as caught:
            runs.beat((1,), "no lot")
        if deep:
            self.assertEqual(caught.exception.left, 1)
        self.assertRaises(NoLot, runs.beat, None, "no lot")
        self.assertEqual(self.state(runs), before)

    def test_no_link(self):
        runs = three_links()
        runs.drop(1)
        before = self.state(runs)
        for thing in odd_things() + [1, 3, 60, -1, True, False, "0", (0,), [0], 10 ** 59]:
            self.assertRaises(NoLink, runs.drop, thing)
        self.assertEqual(self.state(runs), before)

    def test_no_pair(self):
        runs = three_links()
        before = self.state(runs)
        bent = [(0, 0), (0, 2), (2, 0), (-1, 0), (0,), (0, 1, 0), [0, 1], (True, 0), (0, True), (False, 1), ("0", 1),
                None, 0, "01", ((0, 1),), {0: 1}, (None, 1), (1, 1)]
        for thing in bent + odd_things():
            if thing != (1, 0):
                self.assertRaises(NoPair, runs.add, thing)
        self.assertEqual(self.state(runs), before)
        self.assertEqual(runs.add((1, 0)), 3)

    def test_no_place(self):
        runs = three_links()
        runs.beat((1,), ())
        for thing in no_places(Net(2, 0, ())):
            self.assertRaises(NoPlace, runs.row, thing)
        self.assertEqual((runs.row(0), runs.row(1)), (((1,),), ((1,),)))


if __name__ == "__main__":
    unittest.main()
