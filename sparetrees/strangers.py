"""Plans of strangers: led beat by beat, and judged by what their places hold for told."""

from sparetrees.checks import is_between, need_between
from sparetrees.losses import lost_in, need_losses
from sparetrees.nets import need_net
from sparetrees.plans import hops, need_plan
from sparetrees.words import is_frame_of, need_frames, need_prime, need_prime_of, need_size, told, word_of

MOST_FRAMES = 60
MOST_BEATS = 100
MOST_COUNTED_LINKS = 60
MOST_COUNTED_FRAMES = 400
MOST_COUNTED_BEATS = 400
FRAME_LINK = -1


class Stage:
    """What each place of a net has heard by now, while strangers lead frames from the root."""

    def __init__(self, net, size, prime, frames):
        self.of_net = net
        self.of_size = size
        self.of_prime = prime
        self.of_frames = frames
        self.known = [[] for _ in range(net.many)]
        # How many frames each place held for told, by its last tuple.
        self.held = [0] * net.many

    def known_at(self, place):
        """The ascending tuple of the triples of what a place has heard."""
        return tuple(sorted(self.known[place]))

    def are_words(self, place, thing):
        """Whether a thing is a dict from links that leave a place to values."""
        if not isinstance(thing, dict):
            return False
        links = self.of_net.links
        for link in thing:
            if not is_between(link, 0, len(links) - 1) or links[link][0] != place:
                return False
            if not is_between(thing[link], 0, self.of_prime - 1):
                return False
        return True

    def is_beginning(self, thing):
        """Whether a thing is a beginning of the frames."""
        if not isinstance(thing, tuple) or len(thing) > len(self.of_frames):
            return False
        for frame, right in zip(thing, self.of_frames):
            # A flag would be equal to a value.
            if not is_frame_of(self.of_prime, self.of_size, frame) or frame != right:
                return False
        return True

    def forward(self, beat, lost, forwarder):
        """Ask the forwarder for each place; tell the first one for which it gave none, None if it always did."""
        if beat < len(self.of_frames):
            self.known[self.of_net.root].append((beat, FRAME_LINK, self.of_frames[beat]))
        carried = []
        for place in range(self.of_net.many):
            words = forwarder(place, beat, self.known_at(place))
            if not self.are_words(place, words):
                return place
            carried.extend([(link, words[link]) for link in words if link not in lost])
        for link, word in carried:
            self.known[self.of_net.links[link][1]].append((beat + 1, link, word))
        return None

    def ask(self, teller):
        """Ask the teller for each place; tell the first one for which it gave no beginning, None if it always did."""
        for place in range(self.of_net.many):
            if place != self.of_net.root:
                frames = teller(place, self.known_at(place))
                if not self.is_beginning(frames):
                    return place
                self.held[place] = len(frames)
        return None

    def verdict(self):
        """What is told of a run that came to its end."""
        for place, count in enumerate(self.held):
            if place != self.of_net.root and count < len(self.of_frames):
                return ("lacks", place, count)
        return ("heard",)


def led(net, size, prime, frames, beats, losses, forwarder, teller):
    """What comes of it when strangers lead frames: heard, or what lacks, or where they were wrong."""
    need_net(net)
    need_size(size)
    need_prime(prime)
    need_frames(prime, size, MOST_FRAMES, frames)
    need_between(beats, 1, MOST_BEATS)
    need_losses(net, losses)
    stage = Stage(net, size, prime, frames)
    for beat in range(beats):
        place = stage.forward(beat, lost_in(losses, beat), forwarder)
        if place is not None:
            return ("bad", beat, place)
        place = stage.ask(teller)
        if place is not None:
            return ("wrong", beat, place)
    return stage.verdict()


def words_by_tree(prime, ways, heard):
    """The dict, from trees to words, of what was heard by the hops of the trees, or of a frame at the root."""
    words = {}
    for beat, link, word in heard:
        for tree, depth, by_link, start, end in ways:
            if link == FRAME_LINK:
                words[tree] = word_of(prime, word, tree)
            elif link == by_link:
                words[tree] = word
    return words


def words_by_frame(ways, heard):
    """The dict, from numbers of frames to the dicts from trees to words, of what was heard by the hops."""
    known = {}
    for beat, link, word in heard:
        for tree, depth, by_link, start, end in ways:
            if link == by_link:
                number = beat - depth
                if number not in known:
                    known[number] = {}
                known[number][tree] = word
    return known


def told_row(prime, size, known):
    """The tuple of the frames, from the first one on, that their heard words tell, as far as none lacks."""
    frames = []
    while len(frames) in known:
        frame = told(prime, size, known[len(frames)])
        if frame is None:
            break
        frames.append(frame)
    return tuple(frames)


def tree_forwarder(plan, prime):
    """The forwarder that sends each word on along its tree."""
    need_plan(plan)
    need_prime_of(len(plan.by_trees), prime)
    ways = hops(plan)

    def forwarder(place, beat, heard):
        """What a place sends in a beat."""
        words = words_by_tree(prime, ways, [triple for triple in heard if triple[0] == beat])
        return {link: words[tree] for tree, depth, link, start, end in ways if start == place and tree in words}

    return forwarder


def tree_teller(plan, prime):
    """The teller that holds for told the frames of which enough words came by the trees."""
    need_plan(plan)
    need_prime_of(len(plan.by_trees), prime)
    ways = hops(plan)

    def teller(place, heard):
        """The frames that a place holds for told."""
        return told_row(prime, plan.of_size, words_by_frame(ways, heard))

    return teller


def power(base, exponent):
    """A base multiplied by itself so many times."""
    found = 1
    while exponent > 0:
        if exponent % 2 == 1:
            found = found * base
        base = base * base
        exponent = exponent // 2
    return found


def too_few(prime, size, links, frames, beats):
    """Whether fewer things can come in by so many links in so many beats than there are rows of frames."""
    need_prime(prime)
    need_size(size)
    need_between(links, 0, MOST_COUNTED_LINKS)
    need_between(frames, 0, MOST_COUNTED_FRAMES)
    need_between(beats, 0, MOST_COUNTED_BEATS)
    return power(prime + 1, links * beats) < power(prime, size * frames)
