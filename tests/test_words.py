import itertools
import random
import unittest

from sparetrees.errors import NoFrame, NoHeard, NoNumber, NoPrime
from sparetrees.nets import Net
from sparetrees.words import mended, spread, told, wrong_words
from tests.samples import odd_things

PRIMES = [number for number in range(5, 252) if all(number % less for less in range(2, number))]
NO_PRIMES = [0, 1, 2, 3, 4, 6, 8, 9, 15, 25, 49, 121, 169, 221, 247, 249, 250, 252, 253, 255, 256, 257, 1009, -5, -7,
             10 ** 59, True, False, None, "5", (5,), [5], {5: 5}, Net(2, 0, ())]
NO_SIZES = (0, 9, 10, 13, -1, True, False, None, "1", (1,), [1], 10 ** 59, -(10 ** 59), Net(2, 0, ()))


def word_apart(prime, frame, number):
    return sum(value * number ** power for power, value in enumerate(frame)) % prime


def words_apart(prime, frame, numbers):
    return {number: word_apart(prime, frame, number) for number in numbers}


def wrong_apart(prime, frame, heard):
    return tuple(number for number in sorted(heard) if word_apart(prime, frame, number) != heard[number])


def random_frame(chance, prime, size):
    return tuple(chance.randrange(prime) for _ in range(size))


def shuffled(chance, heard):
    numbers = list(heard)
    chance.shuffle(numbers)
    return {number: heard[number] for number in numbers}


class SpreadTest(unittest.TestCase):

    def test_all_primes_and_sizes(self):
        chance = random.Random(50)
        for prime in PRIMES:
            for size in range(1, 9):
                frame = random_frame(chance, prime, size)
                for many in range(size, min(12, prime) + 1):
                    found = spread(prime, frame, many)
                    self.assertIs(found.__class__, tuple)
                    self.assertEqual(found, tuple(word_apart(prime, frame, number) for number in range(many)))

    def test_told_words(self):
        self.assertEqual(spread(5, (2, 3), 3), (2, 0, 3))
        self.assertEqual(spread(5, (4,), 5), (4, 4, 4, 4, 4))
        self.assertEqual(spread(7, (0, 0, 1), 7), (0, 1, 4, 2, 2, 4, 1))
        self.assertEqual(spread(251, (250,) * 8, 12)[:3], (250, (250 * 8) % 251, (250 * 255) % 251))
        self.assertEqual(len(spread(11, (1,), 11)), 11)
        self.assertEqual(len(spread(13, (1,), 12)), 12)

    def test_no_prime(self):
        for prime in NO_PRIMES + odd_things():
            self.assertRaises(NoPrime, spread, prime, "no frame", "no number")
            self.assertRaises(NoPrime, spread, prime, (1,), 3)
            for function in (told, mended, wrong_words):
                self.assertRaises(NoPrime, function, prime, "no number", "none")
                self.assertRaises(NoPrime, function, prime, 1, {0: 1})
        for prime in range(-3, 260):
            if prime in PRIMES:
                self.assertEqual(spread(prime, (1,), 1), (1,))
            else:
                self.assertRaises(NoPrime, spread, prime, (1,), 1)

    def test_no_frame(self):
        bent = [(), (1,) * 9, [1, 2], (5,), (1, 5), (-1,), (1, True), (False,), (None,), ("1",), ((1,),), (1, [2]),
                (10 ** 59,), 1, None, "1", {0: 1}, range(3), Net(2, 0, ())]
        for frame in bent:
            self.assertRaises(NoFrame, spread, 5, frame, "no number")
            self.assertRaises(NoFrame, spread, 5, frame, 5)
        for frame in odd_things():
            if frame not in ((1, 0), (1, 1), (0, 0), (2, 1)):
                self.assertRaises(NoFrame, spread, 5, frame, 5)
        self.assertRaises(NoFrame, spread, 251, (251,), 5)
        self.assertEqual(spread(251, (250,), 1), (250,))
        self.assertEqual(spread(11, (1,) * 8, 8)[:2], (1, 8))

    def test_no_number(self):
        for thing in odd_things() + [0, 1, 13, True, None, "2", (2,), [2], 10 ** 59, -2, Net(2, 0, ())]:
            self.assertRaises(NoNumber, spread, 13, (1, 2), thing)
        for prime, size, many in ((5, 1, 6), (7, 1, 8), (11, 1, 12), (13, 1, 13), (251, 1, 13), (13, 2, 1), (13, 8, 7),
                                  (5, 1, 0), (5, 6, 5), (5, 6, 6), (5, 8, 8), (7, 8, 7), (7, 8, 8)):
            self.assertRaises(NoNumber, spread, prime, (1,) * size, many)
        for prime, size, many in ((5, 1, 5), (5, 5, 5), (7, 7, 7), (11, 8, 11), (13, 8, 12), (13, 8, 8), (13, 1, 1)):
            self.assertEqual(len(spread(prime, (1,) * size, many)), many)


class ToldTest(unittest.TestCase):

    def test_as_many_words_as_the_size_tell_it(self):
        chance = random.Random(51)
        for prime in PRIMES:
            for size in range(1, min(8, prime) + 1):
                frame = random_frame(chance, prime, size)
                for count in range(size, min(12, prime) + 1):
                    numbers = chance.sample(range(min(12, prime)), count)
                    heard = words_apart(prime, frame, numbers)
                    self.assertEqual(told(prime, size, heard), frame)
                    self.assertEqual(mended(prime, size, heard), frame)
                    self.assertEqual(wrong_words(prime, size, heard), ())
                    self.assertIs(told(prime, size, heard).__class__, tuple)

    def test_any_of_the_spread_words(self):
        frame = (3, 0, 6)
        words = spread(7, frame, 7)
        for numbers in itertools.combinations(range(7), 3):
            self.assertEqual(told(7, 3, {number: words[number] for number in numbers}), frame)

    def test_too_few(self):
        chance = random.Random(52)
        for size in range(1, 9):
            for count in range(size):
                heard = words_apart(13, random_frame(chance, 13, size), chance.sample(range(12), count))
                self.assertIsNone(told(13, size, heard))
                self.assertIsNone(mended(13, size, heard))
                self.assertIsNone(wrong_words(13, size, heard))
        # There are fewer words than the size, whatever is heard.
        for size in (6, 7, 8):
            self.assertIsNone(told(5, size, {number: 1 for number in range(5)}))
            self.assertIsNone(mended(5, size, {number: 1 for number in range(5)}))

    def test_words_of_none(self):
        chance = random.Random(53)
        for _ in range(300):
            prime = chance.choice(PRIMES)
            most = min(12, prime)
            size = chance.randrange(1, min(8, most - 1) + 1)
            heard = words_apart(prime, random_frame(chance, prime, size),
                                chance.sample(range(most), chance.randrange(size + 1, most + 1)))
            wrong = chance.choice(list(heard))
            heard[wrong] = (heard[wrong] + chance.randrange(1, prime)) % prime
            self.assertIsNone(told(prime, size, shuffled(chance, heard)))

    def test_all_heard_words_of_small_frames(self):
        for size in (1, 2):
            frames = list(itertools.product(range(5), repeat=size))
            for values in itertools.product([None, 0, 1, 4], repeat=5):
                heard = {number: value for number, value in enumerate(values) if value is not None}
                right = [frame for frame in frames if not wrong_apart(5, frame, heard)]
                expected = right[0] if len(heard) >= size and right else None
                self.assertEqual(told(5, size, heard), expected)

    def test_frames_with_noughts(self):
        self.assertEqual(told(5, 3, {0: 0, 1: 0, 4: 0}), (0, 0, 0))
        self.assertEqual(told(5, 3, {0: 2, 1: 2, 4: 2, 2: 2}), (2, 0, 0))
        self.assertEqual(told(5, 1, {3: 2}), (2,))


class MendedTest(unittest.TestCase):

    def bent(self, chance, prime, heard, count):
        found = dict(heard)
        for number in chance.sample(sorted(heard), count):
            found[number] = (found[number] + chance.randrange(1, prime)) % prime
        return shuffled(chance, found)

    def test_as_many_wrong_ones_as_are_let(self):
        chance = random.Random(54)
        for _ in range(500):
            prime = chance.choice(PRIMES)
            most = min(12, prime)
            size = chance.randrange(1, min(8, most) + 1)
            count = chance.randrange(size, most + 1)
            frame = random_frame(chance, prime, size)
            heard = words_apart(prime, frame, chance.sample(range(most), count))
            for wrong in {0, 1, (count - size) // 2}:
                if wrong <= (count - size) // 2:
                    bent = self.bent(chance, prime, heard, wrong)
                    self.assertEqual(mended(prime, size, bent), frame)
                    self.assertEqual(wrong_words(prime, size, bent), wrong_apart(prime, frame, bent))
                    self.assertEqual(len(wrong_words(prime, size, bent)), wrong)
                    self.assertIs(wrong_words(prime, size, bent).__class__, tuple)

    def test_all_heard_words_of_small_frames(self):
        found = []
        for size in (1, 2, 3):
            frames = list(itertools.product(range(5), repeat=size))
            for values in itertools.product([None, 0, 1, 4], repeat=5):
                heard = {number: value for number, value in enumerate(values) if value is not None}
                most = (len(heard) - size) // 2
                right = [frame for frame in frames if len(wrong_apart(5, frame, heard)) <= most]
                expected = right[0] if len(heard) >= size and right else None
                self.assertLessEqual(len(right), 1)
                self.assertEqual(mended(5, size, heard), expected)
                self.assertEqual(wrong_words(5, size, heard),
                                 None if expected is None else wrong_apart(5, expected, heard))
                found.append(expected is None)
        self.assertGreater(min(found.count(True), found.count(False)), 500)

    def test_one_wrong_one_more(self):
        # Of seven words of a frame of three two may be wrong; with three wrong ones it is no more told.
        frame = (1, 2, 3)
        heard = words_apart(13, frame, range(7))
        heard[2], heard[5] = (heard[2] + 1) % 13, (heard[5] + 4) % 13
        self.assertEqual(mended(13, 3, heard), frame)
        self.assertEqual(wrong_words(13, 3, heard), (2, 5))
        heard[6] = (heard[6] + 6) % 13
        self.assertNotEqual(mended(13, 3, heard), frame)

    def test_of_two_unlike_frames(self):
        one, other = (1, 0), (2, 0)
        mixed = {0: 1, 1: 1, 2: 2, 3: 2}
        self.assertIsNone(mended(7, 2, mixed))
        self.assertIsNone(wrong_words(7, 2, mixed))
        mixed[4] = 1
        self.assertIsNone(mended(7, 2, mixed))
        mixed[5], mixed[6] = 1, 1
        self.assertEqual(mended(7, 2, mixed), one)
        self.assertEqual(wrong_words(7, 2, mixed), (2, 3))
        self.assertEqual(mended(7, 2, {0: 1, 1: 2, 2: 2, 3: 2, 4: 2}), other)
        # Two unlike frames of one size have fewer words in common than that.
        chance = random.Random(55)
        for _ in range(200):
            prime = chance.choice(PRIMES)
            size = chance.randrange(1, min(8, prime) + 1)
            one, other = random_frame(chance, prime, size), random_frame(chance, prime, size)
            alike = [number for number in range(min(12, prime))
                     if word_apart(prime, one, number) == word_apart(prime, other, number)]
            if one != other:
                self.assertLess(len(alike), size)

    def test_e07(self):
        self.assertEqual((told(5, 2, {0: 2, 2: 3}), mended(5, 1, {0: 4, 1: 4, 2: 3}),
                          wrong_words(5, 1, {0: 4, 1: 4, 2: 3})), ((2, 3), (4,), (2,)))

    def test_just_the_size(self):
        self.assertEqual(mended(5, 1, {4: 3}), (3,))
        self.assertEqual(wrong_words(5, 1, {4: 3}), ())
        self.assertIsNone(mended(5, 1, {0: 1, 4: 3}))
        self.assertIsNone(mended(5, 1, {}))


class WrongArgumentsTest(unittest.TestCase):

    def test_no_size(self):
        for thing in list(NO_SIZES) + odd_things():
            for function in (told, mended, wrong_words):
                self.assertRaises(NoNumber, function, 5, thing, {0: 1})
                self.assertRaises(NoNumber, function, 5, thing, "none")
        for size in range(1, 9):
            for function in (told, mended, wrong_words):
                self.assertIsNone(function(5, size, {}))

    def test_no_heard_words(self):
        bent = [
            {5: 1}, {-1: 1}, {0: 5}, {0: -1}, {0: True}, {1: False}, {0: None}, {0: "1"}, {0: (1,)}, {0: [1]}, {"0": 1},
            {(0,): 1}, {None: 1}, {b"": 1}, {0: 1, 1: 5}, {0: 1, 5: 1}, {10 ** 59: 1}, {0: 10 ** 59}, {0: {}}, {0: Net},
            [], [(0, 1)], ((0, 1),), (), 0, None, "", "01", Net(2, 0, ()), {0: 1}.items(), {0: Net(2, 0, ())},
            {number: 0 for number in range(6)},
        ]
        for thing in bent:
            for function in (told, mended, wrong_words):
                self.assertRaises(NoHeard, function, 5, 1, thing)
                self.assertRaises(NoHeard, function, 5, 8, thing)
        for thing in odd_things():
            if thing != {} and thing != {0: 1}:
                for function in (told, mended, wrong_words):
                    self.assertRaises(NoHeard, function, 5, 1, thing)
            for function in (told, mended, wrong_words):
                self.assertRaises(NoHeard, function, 5, 1, {0: thing})

    def test_the_greatest_numbers(self):
        for prime in PRIMES:
            last = min(12, prime) - 1
            self.assertEqual(told(prime, 1, {last: prime - 1}), (prime - 1,))
            for function in (told, mended, wrong_words):
                self.assertRaises(NoHeard, function, prime, 1, {last + 1: 0})
                self.assertRaises(NoHeard, function, prime, 1, {last: prime})

    def test_nothing_is_changed(self):
        heard = {3: 1, 0: 4, 1: 1}
        for function in (told, mended, wrong_words):
            function(5, 1, heard)
        self.assertEqual(list(heard.items()), [(3, 1), (0, 4), (1, 1)])


if __name__ == "__main__":
    unittest.main()
