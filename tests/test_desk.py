import random
import unittest

from sparetrees.desk import Desk, tale
from sparetrees.errors import (
    BadNet, Barred, NoFrame, NoLine, NoLines, NoLink, NoLot, NoNumber, NoPair, NoPlace, NoPrime, Resting, TooMany,
    TreeError)
from sparetrees.nets import Net
from sparetrees.plans import deepest
from sparetrees.runs import Runs
from sparetrees.stops import greatest_spare, is_harm, least_stop
from tests.plan_samples import NO_PRIMES
from tests.samples import odd_things

BEGUN = ["link 0 1", "link 0 2", "link 1 2", "link 2 1", "begin"]
ASKED = ["there", "beats", "left", "deepest", "spare", "harm", "stop"]


def desk_of(lines, many=3, root=0, size=1, spare=1, prime=7):
    desk = Desk(many, root, size, spare, prime)
    for line in lines:
        desk.tell(line)
    return desk


def deep_desk():
    """A desk whose plan is of one tree along a row, unless the links that are there bar it."""
    return desk_of(["link 0 1", "link 1 2", "link 2 3", "link 0 2", "link 2 1", "begin"], 4, 0, 1, 0, 5)


class AheadTest(unittest.TestCase):

    def test_links_are_told_their_numbers(self):
        desk = Desk(3, 0, 1, 1, 5)
        self.assertEqual([desk.tell(line) for line in BEGUN], ["0", "1", "2", "3", "ok"])

    def test_barred(self):
        desk = Desk(4, 0, 1, 1, 5)
        self.assertEqual(desk.tell("begin"), "barred 1")
        self.assertEqual([desk.tell(f"link 0 {place}") for place in (1, 1, 2, 3, 2)], ["0", "1", "2", "3", "4"])
        self.assertEqual(desk.tell("begin"), "barred 3")
        self.assertEqual(desk.tell("link 3 2"), "5")
        # It is ahead of begin still.
        for line in ["beat - -", "renew", "row 0", "drop 0"] + ASKED:
            self.assertRaises(NoLine, desk.tell, line)
        self.assertEqual([desk.tell("link 2 3"), desk.tell("begin")], ["6", "ok"])
        self.assertRaises(NoLine, desk.tell, "begin")

    def test_barred_by_more_places(self):
        desk = desk_of(["link 0 1", "link 0 3", "link 1 2", "link 2 1", "link 0 3", "link 2 1", "link 1 2"], 4)
        self.assertEqual(desk.tell("begin"), "barred 1 2")
        desk = desk_of(["link 1 0", "link 0 1", "link 2 0"], 3, 2, 2, 0, 5)
        self.assertEqual(desk.tell("begin"), "barred 1")
        desk = desk_of(["link 1 0", "link 0 1", "link 2 0", "link 1 0", "link 0 1"], 3, 2, 2, 0, 5)
        self.assertEqual(desk.tell("begin"), "barred 0 1")

    def test_sixty_links(self):
        desk = desk_of(["link 0 1"] * 60)
        with self.assertRaises(TooMany) as caught:
            desk.tell("link 0 1")
        self.assertEqual(caught.exception.most, 60)
        # What is no pair is told ahead of it.
        self.assertRaises(NoPair, desk.tell, "link 1 1")
        self.assertEqual(desk.tell("begin"), "barred 2")

    def test_no_pair(self):
        desk = Desk(3, 0, 1, 0, 5)
        for line in ("link 0 0", "link 1 1", "link 0 3", "link 3 0", "link 999999999 0", "link 0 999999999"):
            self.assertRaises(NoPair, desk.tell, line)
        self.assertEqual(desk.tell("link 2 1"), "0")

    def test_what_can_not_stand_there(self):
        for line in ["beat 1 -", "beat - -", "drop 0", "renew", "row 0"] + ASKED:
            self.assertRaises(NoLine, Desk(3, 0, 1, 0, 5).tell, line)
        desk = desk_of(BEGUN)
        self.assertRaises(NoLine, desk.tell, "begin")


class BehindTest(unittest.TestCase):

    def test_beats(self):
        desk = desk_of(BEGUN)
        self.assertEqual([desk.tell(line) for line in ("beats", "row 0", "row 1", "left")], ["0", "none", "none", "0"])
        self.assertEqual(desk.tell("beat 6 -"), "0")
        self.assertEqual(desk.tell("beat - 0,3"), "0")
        self.assertEqual(desk.tell("beat 2 0"), "0")
        self.assertEqual(desk.tell("beat - 0,1,2,3"), "0")
        self.assertEqual([desk.tell(f"row {place}") for place in range(3)][:1], ["6 2"])
        self.assertEqual(desk.tell("beats"), "4")
        self.assertEqual(desk.tell("beat 0 -"), "0")
        self.assertEqual(desk.tell("row 0"), "6 2 0")

    def test_rows_of_greater_frames(self):
        desk = desk_of(["link 0 1", "link 0 1", "link 0 1", "begin"], 2, 0, 3, 0, 11)
        desk.tell("beat 10,0,3 -")
        desk.tell("beat 0,0,0 -")
        desk.tell("beat 1,2,3 1")
        self.assertEqual([desk.tell("row 0"), desk.tell("row 1")], ["10,0,3 0,0,0 1,2,3", "10,0,3 0,0,0"])

    def test_a_lost_link_is_lost(self):
        desk = desk_of(["link 0 1", "link 0 1", "begin"], 2, 0, 2, 0, 5)
        desk.tell("beat 1,2 0")
        self.assertEqual(desk.tell("row 1"), "none")
        desk = desk_of(["link 0 1", "link 0 1", "begin"], 2, 0, 1, 1, 5)
        self.assertEqual([desk.tell("beat 1 0"), desk.tell("row 1"), desk.tell("beat 2 0,1"), desk.tell("row 1")],
                         ["0", "1", "0", "1"])

    def test_links_come_and_go(self):
        desk = desk_of(BEGUN)
        self.assertEqual(desk.tell("there"), "0 1 2 3")
        self.assertRaises(Barred, desk.tell, "drop 0")
        self.assertEqual(desk.tell("link 0 1"), "4")
        self.assertEqual(desk.tell("drop 0"), "ok")
        self.assertEqual(desk.tell("there"), "1 2 3 4")
        self.assertRaises(NoLink, desk.tell, "drop 0")
        self.assertRaises(NoLink, desk.tell, "drop 5")
        self.assertEqual(desk.tell("link 1 0"), "5")
        self.assertEqual(desk.tell("renew"), "ok")
        self.assertEqual(desk.tell("there"), "1 2 3 4 5")
        self.assertRaises(NoPair, desk.tell, "link 2 2")
        for number in range(6, 60):
            self.assertEqual(desk.tell("link 2 0"), str(number))
        self.assertRaises(TooMany, desk.tell, "link 2 0")

    def test_it_rests(self):
        desk = deep_desk()
        self.assertEqual(desk.tell("deepest"), "3")
        desk.tell("beat 1 -")
        self.assertEqual([desk.tell("drop 0"), desk.tell("left"), desk.tell("deepest")], ["ok", "1", "2"])
        with self.assertRaises(Resting) as caught:
            desk.tell("beat 2 -")
        self.assertEqual(caught.exception.left, 1)
        self.assertEqual([desk.tell("beats"), desk.tell("beat - -"), desk.tell("left"), desk.tell("beat 2 -")],
                         ["1", "0", "0", "0"])
        desk = deep_desk()
        desk.tell("beat 1 -")
        desk.tell("beat - -")
        desk.tell("drop 0")
        self.assertEqual(desk.tell("left"), "0")

    def test_a_beat_tells_the_rests_behind_it(self):
        # The last link of a row of places is the first one of the plan that is left.
        lines = [f"link {place} {place + 1}" for place in range(9)] + ["link 0 8"]
        lines += [f"link 9 {place}" for place in range(1, 8)] + ["begin"]
        desk = desk_of(lines, 10, 0, 1, 0, 5)
        deep = desk.tell("deepest") == "9"
        desk.tell("beat 1 -")
        desk.tell("drop 0")
        self.assertTrue(deep)
        self.assertEqual(desk.tell("left"), "7")
        self.assertEqual([desk.tell("beat - -") for _ in range(8)], ["6", "5", "4", "3", "2", "1", "0", "0"])

    def test_spare_and_stop(self):
        desk = desk_of(["link 0 1"] * 5 + ["begin"], 2, 0, 2, 1, 5)
        self.assertEqual(desk.tell("spare"), "3")
        desk.tell("drop 4")
        self.assertEqual(desk.tell("spare"), "2")
        first = desk.tell("stop").split()
        self.assertEqual(len(first), 2)
        desk.tell("drop 0")
        desk.tell("link 0 1")
        desk.tell("drop 1")
        # Links 2, 3 and 5 are there, and all of them in the plan.
        self.assertEqual([desk.tell("there"), desk.tell("stop"), desk.tell("spare")], ["2 3 5", "2 3", "1"])

    def test_harm(self):
        desk = desk_of(["link 0 1", "link 0 1", "begin"], 2, 0, 1, 1, 5)
        self.assertEqual(desk.tell("harm"), "1 | 0 1")
        desk.tell("link 0 1")
        desk.tell("link 1 0")
        self.assertEqual(desk.tell("harm"), "1 | 0 1 2")
        desk.tell("drop 0")
        self.assertEqual(desk.tell("harm"), "1 | 1 2")
        desk.tell("link 0 1")
        desk.tell("drop 2")
        self.assertEqual(desk.tell("harm"), "1 | 1 4")

    def test_harms_side(self):
        # Places 1 and 2 together are entered by two links alone.
        desk = desk_of(["link 0 1", "link 0 2", "link 1 2", "link 2 1", "link 1 2", "link 2 1", "begin"])
        self.assertEqual(desk.tell("harm"), "1 2 | 0 1")
        desk = desk_of(["link 0 1", "link 0 2", "link 1 2", "link 2 1", "link 1 2", "link 2 1", "begin"], 3, 0, 2, 0)
        side, links = desk.tell("harm").split(" | ")
        self.assertEqual(side, "1 2")
        self.assertIn(links, ("0", "1"))

    def test_harm_without_links(self):
        # No desk behind begin comes to it, but the line is told so.
        desk = desk_of(["link 0 1", "link 0 1", "begin"], 2, 0, 1, 1, 5)
        desk.of_size = 3
        self.assertEqual([desk.tell("harm"), desk.tell("spare")], ["1 |", "none"])

    def test_stops_that_are_too_many(self):
        lines = [f"link {place} {place + 1}" for _ in range(5) for place in range(9)]
        desk = desk_of(lines + ["begin"], 10, 0, 1, 4, 5)
        with self.assertRaises(TooMany) as caught:
            desk.tell("stop")
        self.assertEqual(caught.exception.most, 20000)

    def test_what_is_raised(self):
        desk = desk_of(BEGUN)
        for line, error in (
                ("beat 7 -", NoFrame), ("beat 1,2 -", NoFrame), ("beat 999999999 9", NoFrame), ("beat 1 4", NoLot),
                ("beat - 1,0", NoLot), ("beat - 1,1", NoLot), ("beat 1 999999999", NoLot), ("row 3", NoPlace),
                ("row 999999999", NoPlace), ("drop 4", NoLink), ("drop 0", Barred), ("link 0 0", NoPair),
                ("link 0 3", NoPair)):
            self.assertRaises(error, desk.tell, line)
        self.assertEqual([desk.tell("beats"), desk.tell("there")], ["0", "0 1 2 3"])


class RunsTest(unittest.TestCase):

    def test_against_runs(self):
        chance = random.Random(130)
        for _ in range(25):
            many, size, spare = chance.randrange(2, 6), chance.randrange(1, 3), chance.randrange(0, 3)
            pairs = [(0, place) for place in range(1, many) for _ in range(size + spare)]
            pairs += [tuple(chance.sample(range(many), 2)) for _ in range(chance.randrange(6))]
            chance.shuffle(pairs)
            desk = desk_of([f"link {one} {other}" for one, other in pairs] + ["begin"], many, 0, size, spare, 11)
            runs = Runs(Net(many, 0, tuple(pairs)), size, spare, 11)
            for _ in range(25):
                self.step(chance, desk, runs, many, size)

    def step(self, chance, desk, runs, many, size):
        choice = chance.randrange(12)
        if choice < 6:
            frame = tuple(chance.randrange(11) for _ in range(size)) if choice < 5 else None
            lost = tuple(link for link in range(len(runs.there()) + 2) if chance.randrange(10) == 0)
            words = (",".join(map(str, frame)) if frame else "-", ",".join(map(str, lost)) or "-")
            self.same(desk, "beat {} {}".format(*words), lambda: runs.beat(frame, lost) and runs.rests())
        elif choice < 8:
            link = chance.randrange(len(runs.there()) + 3)
            self.same(desk, f"drop {link}", lambda: runs.drop(link) or "ok")
        elif choice < 9:
            pair = (chance.randrange(many), chance.randrange(many + 1))
            self.same(desk, "link {} {}".format(*pair), lambda: runs.add(pair))
        elif choice < 10:
            self.same(desk, "renew", lambda: runs.renew() or "ok")
        else:
            self.ask(desk, runs, many)

    def same(self, desk, line, do):
        try:
            expected = str(do())
        except TreeError as error:
            with self.assertRaises(error.__class__) as caught:
                desk.tell(line)
            self.assertEqual(vars(caught.exception), vars(error))
        else:
            self.assertEqual(desk.tell(line), expected)

    def ask(self, desk, runs, many):
        there = runs.there()
        plan = runs.plan()
        net = Net(many, 0, tuple((plan.of_net.links + runs_links(runs))[link] for link in there))
        expected = {
            "there": " ".join(map(str, there)), "beats": str(runs.beats()), "left": str(runs.rests()),
            "deepest": str(deepest(plan)), "spare": str(greatest_spare(net, plan.of_size)),
            "stop": " ".join(map(str, least_stop(plan))),
        }
        for line, answer in expected.items():
            self.assertEqual(desk.tell(line), answer)
        for place in range(many):
            frames = [",".join(map(str, frame)) for frame in runs.row(place)]
            self.assertEqual(desk.tell(f"row {place}"), " ".join(frames) or "none")
        side, lot = [tuple(map(int, part.split())) for part in desk.tell("harm").split("|")]
        self.assertTrue(set(lot) <= set(there))
        self.assertTrue(is_harm(net, plan.of_size, (side, tuple(there.index(link) for link in lot))))
        self.assertEqual(len(lot), greatest_spare(net, plan.of_size) + 1)


def runs_links(runs):
    """The links that were put in behind the newest plan, in their order, as the book tells."""
    added = [note[2] for note in runs.book() if note[0] == "add"]
    number = len(runs.plan().of_net.links)
    first = number_at_first(runs)
    return tuple(added[number - first:])


def number_at_first(runs):
    """How many links there were at first: those in the net of a renewed copy, less those that were added."""
    other = runs.copy()
    other.renew()
    return len(other.plan().of_net.links) - len([note for note in runs.book() if note[0] == "add"])


class FormsTest(unittest.TestCase):

    def test_words_and_blanks(self):
        ahead = ["link 0 1", "begin"]
        behind = ["beat 1 0", "beat - -", "beat 1 -", "link 0 1", "drop 0", "renew", "row 0"] + ASKED
        for begun, lines in (([], ahead), (BEGUN + ["link 0 1", "link 0 2"], behind)):
            for line in lines:
                bent = [
                    line + " ", " " + line, line + "\n", "\n" + line, line.replace(" ", "  "), line.upper(), line + " 0",
                    line + " -", line.replace(" ", ","), line.replace(" ", "\n"), line[:-1], line + "s", line + ",",
                    line.rsplit(" ", 1)[0] + " x", line.capitalize(), "-" + line, line + "\x00",
                ]
                for other in bent:
                    if other != line:
                        self.assertRaises(NoLine, desk_of(begun[:5]).tell, other)

    def test_numbers(self):
        bad = ["01", "00", "-1", "+1", "1.0", "1e1", "0x1", "1_0", "x", "", "1000000000", "0000000001", "1" * 30, "--1",
               "\n1", "1\n", "1-", "1,", ",1", "1,1,", "\xb2", "\u0663", "1" * 19000]
        for number in bad + ["1,2", "-"]:
            for line in (f"link 0 {number}", f"link {number} 0"):
                self.assertRaises(NoLine, Desk(3, 0, 1, 0, 5).tell, line)
                self.assertRaises(NoLine, desk_of(BEGUN).tell, line)
            for line in (f"drop {number}", f"row {number}"):
                self.assertRaises(NoLine, desk_of(BEGUN).tell, line)
        for number in bad:
            for row in (number, f"{number},2", f"1,{number},2"):
                if row not in ("1,1",):
                    self.assertRaises(NoLine, desk_of(BEGUN).tell, f"beat {row} -")
                    self.assertRaises(NoLine, desk_of(BEGUN).tell, f"beat - {row}")
        for row in ("-,1", "1,-", "--", "-1,-2", "0,01"):
            self.assertRaises(NoLine, desk_of(BEGUN).tell, f"beat {row} -")
            self.assertRaises(NoLine, desk_of(BEGUN).tell, f"beat - {row}")
        for number in ("999999999", "100000000"):
            self.assertRaises(NoPair, Desk(3, 0, 1, 0, 5).tell, f"link 0 {number}")
            self.assertRaises(NoPlace, desk_of(BEGUN).tell, f"row {number}")
            self.assertRaises(NoFrame, desk_of(BEGUN).tell, f"beat {number} -")
            self.assertRaises(NoLot, desk_of(BEGUN).tell, f"beat - {number}")

    def test_other_words(self):
        for line in ("", " ", "\n", "-", "0", "tell", "book", "copy", "plan", "add 0 1", "lose 0", "begin 0", "link 0",
                     "link", "link 0 1 2", "x" * 20000, "beat", "beat 1", "beat 1 - -", "row", "row 0 1", "drop",
                     "drop 0 1", "renew 0", "there 0", "harm 0", "stop 0", "links 0 1"):
            self.assertRaises(NoLine, Desk(3, 0, 1, 0, 5).tell, line)
            self.assertRaises(NoLine, desk_of(BEGUN).tell, line)

    def test_no_strings(self):
        desk = desk_of(BEGUN)
        for thing in odd_things() + [0, ["beats"], ("beats",), b"beats", {"beats": 1}, ["link", "0", "1"], desk]:
            self.assertRaises(NoLine, desk.tell, thing)
            self.assertRaises(NoLine, Desk(3, 0, 1, 0, 5).tell, thing)

    def test_a_refused_line_changes_nothing(self):
        desk = desk_of(BEGUN + ["beat 1 -"])
        answers = [desk.tell(line) for line in ASKED + ["row 0", "row 1", "row 2"]]
        for line in ("beat 9 -", "beat 1 9", "drop 9", "drop 0", "link 1 1", "begin", "row 9", "row", ""):
            self.assertRaises(TreeError, desk.tell, line)
        self.assertEqual([desk.tell(line) for line in ASKED + ["row 0", "row 1", "row 2"]], answers)


class DeskTest(unittest.TestCase):

    def both(self, error, *args):
        self.assertRaises(error, Desk, *args)
        self.assertRaises(error, tale, *args, "no lines")
        self.assertRaises(error, tale, *args, [])

    def test_wrong_arguments_in_their_order(self):
        for many in odd_things() + [0, 1, 11, True, "2"]:
            with self.assertRaises(BadNet) as caught:
                Desk(many, "no root", "no size", "no spare", "no prime")
            self.assertEqual(caught.exception.part, "many")
            self.both(BadNet, many, 0, 1, 0, 5)
        for root in odd_things() + [3, -1, True, "0"]:
            with self.assertRaises(BadNet) as caught:
                Desk(3, root, "no size", "no spare", "no prime")
            self.assertEqual(caught.exception.part, "root")
            self.both(BadNet, 3, root, 1, 0, 5)
        for size in odd_things() + [0, 9, -1, True, "1", 10 ** 59]:
            self.both(NoNumber, 3, 0, size, "no spare", "no prime")
        for size in range(1, 9):
            for spare in odd_things() + [-1, 13 - size, True, "1", 10 ** 59]:
                self.both(NoNumber, 3, 0, size, spare, "no prime")
        for prime in odd_things() + NO_PRIMES:
            self.both(NoPrime, 3, 0, 1, 0, prime)

    def test_primes_of_too_few_words(self):
        for size in range(1, 9):
            for spare in range(13 - size):
                for prime in (5, 7, 11, 13):
                    if prime < size + spare:
                        self.both(NoPrime, 2, 0, size, spare, prime)
                    else:
                        self.assertEqual(tale(2, 1, size, spare, prime, ["begin"]), ["barred 0"])

    def test_it_is_equal_to_itself_alone(self):
        desk = Desk(3, 0, 1, 0, 5)
        self.assertTrue(desk == desk)
        for other in [Desk(3, 0, 1, 0, 5), None] + odd_things():
            self.assertFalse(desk == other)


class TaleTest(unittest.TestCase):

    def test_lists_and_tuples(self):
        lines = ["link 0 1", "begin", "link 0 1", "begin", "beat 3 0", "row 1", "harm", "row 2"]
        answers = ["0", "barred 1", "1", "ok", "0", "3", "1 | 0 1", "(NoPlace)"]
        self.assertEqual(tale(2, 0, 1, 1, 5, lines), answers)
        self.assertEqual(tale(2, 0, 1, 1, 5, tuple(lines)), answers)
        self.assertIs(tale(2, 0, 1, 1, 5, tuple(lines)).__class__, list)
        self.assertEqual(lines, ["link 0 1", "begin", "link 0 1", "begin", "beat 3 0", "row 1", "harm", "row 2"])
        self.assertEqual((tale(2, 0, 1, 1, 5, []), tale(2, 0, 1, 1, 5, ())), ([], []))

    def test_all_errors(self):
        lines = ["link 0 0", "beats", "begin"] + ["link 0 1"] * 2 + ["begin", "begin", "beat 5 -", "beat 1 7", "row 2",
                 "drop 2", "drop 0", "link 1 2", None, 7, ["beats"], "", "beat 1 0", "beats"]
        self.assertEqual(tale(2, 0, 1, 1, 5, lines), [
            "(NoPair)", "(NoLine)", "barred 1", "0", "1", "ok", "(NoLine)", "(NoFrame)", "(NoLot)", "(NoPlace)",
            "(NoLink)", "(Barred)", "(NoPair)", "(NoLine)", "(NoLine)", "(NoLine)", "(NoLine)", "0", "1"])
        self.assertEqual(tale(2, 0, 1, 0, 5, ["link 1 0"] * 61)[58:], ["58", "59", "(TooMany)"])
        rows = ["link 0 1", "link 1 2", "link 2 3", "link 0 2", "link 2 1", "begin", "beat 1 -", "drop 0", "beat 1 -"]
        self.assertEqual(tale(4, 0, 1, 0, 5, rows)[-2:], ["ok", "(Resting)"])

    def test_no_lines(self):
        for thing in odd_things() + [None, 0, "beats", "", {}, {"beats": 1}, b"beats", Net(2, 0, ())]:
            if not isinstance(thing, (list, tuple)):
                self.assertRaises(NoLines, tale, 2, 0, 1, 0, 5, thing)
            elif len(thing) < 100:
                self.assertEqual(tale(2, 0, 1, 0, 5, thing), ["(NoLine)"] * len(thing))

    def test_each_tale_is_of_a_new_desk(self):
        for _ in range(2):
            self.assertEqual(tale(2, 0, 1, 0, 5, ["link 0 1", "begin", "beat 1 -", "beats"]), ["0", "ok", "0", "1"])


if __name__ == "__main__":
    unittest.main()
