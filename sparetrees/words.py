"""Words of a frame: values of a polynomial at the words' numbers, all reckoned modulo a prime.

A polynomial is a list of as many values as it may need, that of the power 0 first, as a frame is.
"""

from itertools import combinations

from sparetrees.checks import is_between, need_between
from sparetrees.errors import NoFrame, NoFrames, NoHeard, NoPrime

LEAST_PRIME = 5
GREATEST_PRIME = 251
MOST_SIZE = 8
MOST_WORDS = 12


def is_prime(thing):
    """Whether a thing is a prime from 5 to 251."""
    if not is_between(thing, LEAST_PRIME, GREATEST_PRIME):
        return False
    return 0 not in [thing % number for number in range(2, thing)]


def need_prime(thing):
    """Raise NoPrime unless a thing is a prime from 5 to 251."""
    if not is_prime(thing):
        raise NoPrime()


def need_prime_of(many, thing):
    """Raise NoPrime unless a thing is a prime of which frames can have so many words."""
    need_prime(thing)
    if thing < many:
        raise NoPrime()


def is_frame(prime, thing):
    """Whether a thing is a frame: a tuple of 1 to 8 values."""
    if not isinstance(thing, tuple) or len(thing) < 1 or len(thing) > MOST_SIZE:
        return False
    for value in thing:
        if not is_between(value, 0, prime - 1):
            return False
    return True


def is_frame_of(prime, size, thing):
    """Whether a thing is a frame of a size."""
    return is_frame(prime, thing) and len(thing) == size


def need_frame(prime, thing):
    """Raise NoFrame unless a thing is a frame."""
    if not is_frame(prime, thing):
        raise NoFrame()


def need_frames(prime, size, most, thing):
    """Raise NoFrames unless a thing is a tuple of at most so many frames of a size."""
    if not isinstance(thing, tuple) or len(thing) > most:
        raise NoFrames()
    for frame in thing:
        if not is_frame_of(prime, size, frame):
            raise NoFrames()


def need_size(thing):
    """Raise NoNumber unless a thing is a size of frames."""
    need_between(thing, 1, MOST_SIZE)


def most_words(prime):
    """How many words a frame can have."""
    return min(MOST_WORDS, prime)


def need_heard(prime, thing):
    """Raise NoHeard unless a thing is a dict of heard words."""
    if not isinstance(thing, dict):
        raise NoHeard()
    for number in thing:
        if not is_between(number, 0, most_words(prime) - 1) or not is_between(thing[number], 0, prime - 1):
            raise NoHeard()


def word_of(prime, frame, number):
    """The word of a number, of a frame or a polynomial."""
    word = 0
    for value in reversed(frame):
        word = (word * number + value) % prime
    return word


def spread(prime, frame, many):
    """The tuple of so many words of a frame."""
    need_prime(prime)
    need_frame(prime, frame)
    need_between(many, len(frame), most_words(prime))
    return tuple([word_of(prime, frame, number) for number in range(many)])


def inverse(prime, value):
    """What a value, not 0, gives 1 with."""
    return [other for other in range(prime) if value * other % prime == 1][0]


def frame_through(prime, numbers, heard):
    """The frame of as many values as there are numbers, of which the heard words of these numbers are."""
    frame = [0] * len(numbers)
    # A polynomial that is 0 at all numbers by now, so that adding it leaves the words there as they are.
    still = [1] + [0] * len(numbers)
    for number in numbers:
        missing = heard[number] - word_of(prime, frame, number)
        times = missing * inverse(prime, word_of(prime, still, number)) % prime
        frame = [(value + times * more) % prime for value, more in zip(frame, still)]
        still = [(ahead - number * value) % prime for ahead, value in zip([0] + still, still)]
    return tuple(frame)


def none_of(prime, frame, heard):
    """The lot of the numbers of the heard words that are none of a frame."""
    return tuple([number for number in sorted(heard) if word_of(prime, frame, number) != heard[number]])


def frame_with(prime, size, heard, most):
    """A frame of which at most so many heard words are none, None if there is none."""
    numbers = sorted(heard)
    for chosen in combinations(numbers, size):
        frame = frame_through(prime, chosen, heard)
        if len(none_of(prime, frame, heard)) <= most:
            return frame
    return None


def told(prime, size, heard):
    """The frame of this size of which all heard words are, None if they do not tell it."""
    need_prime(prime)
    need_size(size)
    need_heard(prime, heard)
    if len(heard) < size:
        return None
    frame = frame_through(prime, sorted(heard)[:size], heard)
    if len(none_of(prime, frame, heard)) > 0:
        return None
    return frame


def mended(prime, size, heard):
    """The frame of this size of which most heard words are, None if they do not tell it."""
    need_prime(prime)
    need_size(size)
    need_heard(prime, heard)
    # The right ones are more than enough: so the words of some numbers, as many as the size, tell it.
    return frame_with(prime, size, heard, (len(heard) - size) // 2)


def wrong_words(prime, size, heard):
    """The lot of the numbers of the heard words that are none of mended, None if that is None."""
    frame = mended(prime, size, heard)
    if frame is None:
        return None
    return none_of(prime, frame, heard)
