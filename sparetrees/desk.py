"""A desk that leads a run by lines of words, and tells each by a string."""

from sparetrees.errors import Barred, NoLine, NoLines, TreeError
from sparetrees.nets import Net
from sparetrees.plans import deepest, need_spare
from sparetrees.runs import Runs, with_pair
from sparetrees.stops import greatest_spare, harm, least_stop
from sparetrees.words import need_prime_of, need_size

MOST_FIGURES = 9
# What stands behind the first word of a line: n is a number, r a row of numbers or none.
FORMS_AHEAD = {"link": "nn", "begin": ""}
FORMS_BEHIND = {
    "beat": "rr", "link": "nn", "drop": "n", "renew": "", "row": "n", "there": "", "beats": "",
    "left": "", "deepest": "", "spare": "", "harm": "", "stop": "",
}


def number_of(word):
    """The number that a word is."""
    figures = [sign for sign in word if sign in "0123456789"]
    if len(figures) != len(word) or len(word) < 1 or len(word) > MOST_FIGURES:
        raise NoLine()
    if word[0] == "0" and len(word) > 1:
        raise NoLine()
    return int(word)


def row_of(word):
    """The tuple of the numbers that a word is, with commas between, None if it tells that there are none."""
    if word == "-":
        return None
    return tuple([number_of(part) for part in word.split(",")])


def parts_of(line, forms):
    """The list of a line's first word and of the numbers and rows behind it, as its form has it."""
    if not isinstance(line, str):
        raise NoLine()
    words = line.split(" ")
    form = forms.get(words[0])
    if form is None or len(form) != len(words) - 1:
        raise NoLine()
    parts = [words[0]]
    for sign, word in zip(form, words[1:]):
        parts.append(number_of(word) if sign == "n" else row_of(word))
    return parts


def line_of(things):
    """Some things as words, with a blank between two, or that there are none."""
    if len(things) == 0:
        return "none"
    return " ".join([str(thing) for thing in things])


def frame_word(frame):
    """A frame as a word, with commas between its values."""
    return ",".join([str(value) for value in frame])


class Desk:
    """A run that is led by lines: ahead of begin its net is put together, behind it beats are done."""

    def __init__(self, many, root, size, spare, prime):
        net = Net(many, root, ())
        need_size(size)
        need_spare(size, spare)
        need_prime_of(size + spare, prime)
        self.of_net = net
        self.of_size = size
        self.of_spare = spare
        self.of_prime = prime
        self.runs = None

    def tell(self, line):
        """Do what a line asks for, and tell what comes of it."""
        if self.runs is None:
            return self.tell_ahead(parts_of(line, dict(FORMS_AHEAD)))
        parts = parts_of(line, dict(FORMS_BEHIND))
        if parts[0] in ("beat", "link", "drop", "renew"):
            return self.tell_done(parts)
        return self.tell_asked(parts)

    def tell_ahead(self, parts):
        """Do what a line ahead of begin asks for."""
        if parts[0] == "link":
            self.of_net = with_pair(self.of_net, (parts[1], parts[2]))
            return str(len(self.of_net.links) - 1)
        try:
            self.runs = Runs(self.of_net, self.of_size, self.of_spare, self.of_prime)
        except Barred as error:
            return line_of(["barred"] + list(error.side))
        return "ok"

    def tell_done(self, parts):
        """Do what a line behind begin asks for, if it changes something."""
        if parts[0] == "beat":
            lost = () if parts[2] is None else parts[2]
            self.runs.beat(parts[1], lost)
            return str(self.runs.rests())
        if parts[0] == "link":
            return str(self.runs.add((parts[1], parts[2])))
        if parts[0] == "drop":
            self.runs.drop(parts[1])
        else:
            self.runs.renew()
        return "ok"

    def tell_asked(self, parts):
        """Tell what a line behind begin asks for, if it changes nothing."""
        word = parts[0]
        if word == "row":
            return line_of([frame_word(frame) for frame in self.runs.row(parts[1])])
        if word == "there":
            return line_of(self.runs.there())
        if word == "beats":
            return str(self.runs.beats())
        if word == "left":
            return str(self.runs.rests())
        if word == "deepest":
            return str(deepest(self.runs.plan()))
        if word == "stop":
            return line_of(least_stop(self.runs.plan()))
        if word == "harm":
            return self.harm_line()
        spare = greatest_spare(self.net_there(), self.of_size)
        return line_of([] if spare is None else [spare])

    def net_there(self):
        """The Net of the links that are there, which are numbered anew."""
        net = self.runs.of_net
        return Net(net.many, net.root, tuple([net.links[link] for link in self.runs.there()]))

    def harm_line(self):
        """The places of a harm's side, and its links by the numbers that they have of all."""
        side, lot = harm(self.net_there(), self.of_size)
        there = self.runs.there()
        return line_of(list(side) + ["|"] + [there[number] for number in lot])


def told_by(desk, line):
    """What a desk tells to a line, an error as its class's name in parentheses."""
    try:
        return desk.tell(line)
    except TreeError as error:
        return "(" + error.__class__.__name__ + ")"


def tale(many, root, size, spare, prime, lines):
    """The list of what a new desk tells to some lines."""
    desk = Desk(many, root, size, spare, prime)
    if not isinstance(lines, (list, tuple)):
        raise NoLines()
    return [told_by(desk, line) for line in lines]
