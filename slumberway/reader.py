"""A text read to its tree, by the grammar."""

from slumberway.building import ACTS, CLOSERS, joined
from slumberway.errors import NoReading
from slumberway.grammar import STEPS
from slumberway.lexemes import end_place, laid
from slumberway.quickreader import OddText, QuickReader


def tree_of(text):
    """Tell the tree of a text; NoSign as lexemes, NoReading where the grammar doesn't go on."""
    return tree_of_laid(laid(text))


def tree_of_laid(told):
    """Tell the tree of a text's lexemes and marks."""
    try:
        return QuickReader(told).tree()
    except OddText:
        return tree_by_table(told)


def tree_by_table(told):
    """Tell the tree, by the table of the grammar."""
    reading = Reading()
    for lexeme in told:
        _, sort, word = lexeme
        if sort == "name" or sort == "maker" or sort == "number":
            word = sort
        step = STEPS.get((reading.state, word))
        if step is None:
            step = reading.step_around(word, lexeme[0])
        name, reading.state = step
        if name != "nothing":
            act = ACTS[name]
            act(reading, lexeme)
    if (reading.state, "end") not in STEPS:
        reading.step_around("end", end_place([lexeme for lexeme in told if lexeme[1] != "mark"]))
    return joined(reading.data)


def wanted(states):
    """Tell all words that have a step in some states, sorted."""
    return sorted(set([word for state, word in STEPS if state in states]))


class Reading:
    """What of a text was read. It keeps a pile of its own, as a tree may be deeper than Python's calls may be."""

    def __init__(self):
        self.state = "text"
        self.data = []
        # The states and data of the frames around, the innermost last.
        self.pile = []

    def begin(self, state, data):
        """Begin a frame within the one that was gone on with so far."""
        self.pile.append((self.state, self.data))
        self.state = state
        self.data = data

    def step_around(self, word, place):
        """Close frames up to one that goes on with a word, and tell its step."""
        states = []
        step = None
        while step is None:
            states.append(self.state)
            if self.state not in CLOSERS:
                raise NoReading(place, wanted(states))
            close = CLOSERS[self.state]
            told = close(self.data)
            self.state, self.data = self.pile.pop()
            self.data.append(told)
            step = STEPS.get((self.state, word))
        return step
