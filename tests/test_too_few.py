import itertools
import random
import unittest

from sparetrees.errors import NoNumber, NoPrime
from sparetrees.nets import Net
from sparetrees.strangers import led, too_few
from tests.plan_samples import NO_PRIMES, PRIMES
from tests.samples import odd_things


def by_counting(prime, size, links, frames, beats):
    return (prime + 1) ** (links * beats) < prime ** (size * frames)


class TooFewTest(unittest.TestCase):

    def test_against_counting(self):
        chance = random.Random(110)
        found = []
        for _ in range(600):
            args = (chance.choice(PRIMES), chance.randrange(1, 9), chance.randrange(0, 8), chance.randrange(0, 40),
                    chance.randrange(0, 40))
            self.assertIs(too_few(*args), by_counting(*args))
            found.append(too_few(*args))
        self.assertGreater(min(found.count(True), found.count(False)), 100)

    def test_counts_about_alike(self):
        # 6 ** 8 is less than 5 ** 9, and 6 ** 9 is more than 5 ** 10.
        self.assertEqual((6 ** 8, 5 ** 9, 6 ** 9, 5 ** 10), (1679616, 1953125, 10077696, 9765625))
        self.assertIs(too_few(5, 1, 1, 9, 8), True)
        self.assertIs(too_few(5, 1, 1, 10, 9), False)
        self.assertIs(too_few(5, 3, 2, 3, 4), True)
        self.assertIs(too_few(5, 2, 3, 5, 3), False)
        for prime in PRIMES:
            for count in range(1, 60):
                # As many words as values are enough; how many values more are not is told by counting.
                self.assertIs(too_few(prime, 1, 1, count, count), False)
                for more in (1, 2):
                    self.assertIs(too_few(prime, 1, 1, count + more, count),
                                  by_counting(prime, 1, 1, count + more, count))
                    self.assertIs(too_few(prime, 1, 1, count, count - 1), by_counting(prime, 1, 1, count, count - 1))

    def test_nothing_at_all(self):
        self.assertIs(too_few(5, 1, 0, 0, 0), False)
        self.assertIs(too_few(5, 8, 60, 0, 400), False)
        self.assertIs(too_few(5, 8, 0, 0, 400), False)
        self.assertIs(too_few(5, 1, 0, 1, 400), True)
        self.assertIs(too_few(5, 1, 60, 1, 0), True)
        self.assertIs(too_few(5, 1, 1, 1, 1), False)

    def test_the_greatest_that_are_let(self):
        self.assertIs(too_few(251, 8, 60, 400, 400), False)
        self.assertIs(too_few(251, 8, 7, 400, 400), True)
        self.assertIs(too_few(251, 8, 8, 400, 400), False)
        self.assertIs(too_few(251, 8, 8, 400, 399), True)
        for size in range(1, 9):
            self.assertIs(too_few(251, size, size, 400, 400), False)
            self.assertIs(too_few(251, size, size - 1, 400, 400), True)

    def test_wrong_arguments(self):
        for thing in NO_PRIMES + odd_things():
            self.assertRaises(NoPrime, too_few, thing, "no size", "no links", "no frames", "no beats")
        for thing in odd_things() + [0, 9, -1, True, "1", 10 ** 59]:
            self.assertRaises(NoNumber, too_few, 5, thing, "no links", "no frames", "no beats")
            self.assertRaises(NoNumber, too_few, 5, thing, 1, 1, 1)
        for at, most in ((2, 60), (3, 400), (4, 400)):
            for thing in odd_things() + [-1, most + 1, True, False, "1", 10 ** 59]:
                args = [5, 1, 1, 1, 1]
                args[at] = thing
                self.assertRaises(NoNumber, too_few, *args)
            args[at] = most
            self.assertIs(too_few(*args).__class__, bool)


class FactOfAllPlansTest(unittest.TestCase):

    def most_told(self, chance, beats, frames):
        """Of how many rows of frames of two values a best teller tells all, a stranger sending by one link."""
        net = Net(2, 0, ((0, 1),))
        table = {}

        def forwarder(place, beat, heard):
            if place == 1:
                return {}
            # Any word, or none, for what the root has by now.
            word = table.setdefault((beat, heard), chance.randrange(6))
            return {0: word} if word < 5 else {}

        rows = list(itertools.product(itertools.product(range(5), repeat=2), repeat=frames))
        known = {}
        for row in rows:
            ends = []
            led(net, 2, 5, row, beats, (), forwarder, lambda place, heard: ends.append(heard) or ())
            known.setdefault(ends[-1], row)
        told = [row for row in rows if led(net, 2, 5, row, beats, (), forwarder,
                                           lambda place, heard: known.get(heard, row[:0])) == ("heard",)]
        return len(told), len(rows)

    def test_some_row_is_not_told(self):
        chance = random.Random(111)
        for beats, frames in ((1, 1), (2, 2), (3, 2)):
            self.assertIs(too_few(5, 2, 1, frames, beats), True)
            told, rows = self.most_told(chance, beats, frames)
            self.assertLess(told, rows)
            self.assertLessEqual(told, 6 ** beats)


if __name__ == "__main__":
    unittest.main()
