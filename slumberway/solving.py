"""Kinds that are met at once, by numbered nodes, where nobody asks which demand it was that can't be met.

A node is a letter, or a word with the nodes of its parts. What is met is kept by the nodes themselves: there is no way
back, but none is needed.
"""

from slumberway.lexemes import SMALL

ARROW = "->"
# The nodes that each solver has from the beginning.
NUM = 0
TRUTH = 1


class Clashing(Exception):
    """Two kinds that can't be the same."""


class Solver:
    """All nodes so far, and what they stand for."""

    __slots__ = ("stands", "forms")

    def __init__(self):
        # Of each node the one that it stands for, itself where it stands for none other.
        self.stands = [NUM, TRUTH]
        # Of each node None, where it is a letter, or its word and the nodes of its parts.
        self.forms = [("Num", ()), ("Truth", ())]

    def twin(self):
        """Tell a solver of its own that has met the same; none of the two may make kinds any more."""
        told = Solver()
        told.forms = self.forms
        told.stands = list(self.stands)
        return told

    def blank(self):
        """Tell a twin that has met nothing."""
        told = Solver()
        told.forms = self.forms
        told.stands = list(range(len(self.forms)))
        return told

    def letter(self):
        """Make a letter of its own, and tell its node."""
        node = len(self.stands)
        self.stands.append(node)
        self.forms.append(None)
        return node

    def made(self, word, parts):
        """Make a kind of a word and a tuple of parts, and tell its node."""
        node = len(self.stands)
        self.stands.append(node)
        self.forms.append((word, parts))
        return node

    def leading(self, parts, last):
        """Make the kind that leads from some kinds, one behind the other, to a last one."""
        for part in parts[::-1]:
            last = self.made(ARROW, (part, last))
        return last

    def root(self, node):
        stands = self.stands
        root = node
        while stands[root] != root:
            root = stands[root]
        while stands[node] != root:
            # What was passed is led straight to the root, so that chains stay short.
            ahead = stands[node]
            stands[node] = root
            node = ahead
        return root

    def meet(self, one, other):
        """Make two kinds the same; Clashing where they can't be, or only kinds without end could."""
        stands = self.stands
        forms = self.forms
        while stands[one] != one:
            one = stands[one]
        while stands[other] != other:
            other = stands[other]
        if one == other:
            return
        if forms[one] is None:
            self.bind(one, other)
        elif forms[other] is None:
            self.bind(other, one)
        else:
            word, parts = forms[one]
            other_word, others = forms[other]
            if word != other_word or len(parts) != len(others):
                raise Clashing()
            stands[one] = other
            if parts:
                self.meet_parts(parts, others)

    def meet_parts(self, parts, others):
        """Make kinds' parts the same, and all within them; by a pile, as kinds may be deep."""
        pile = list(zip(parts, others))
        while pile:
            one, other = pile.pop()
            one = self.root(one)
            other = self.root(other)
            if self.forms[one] is None or self.forms[other] is None or one == other:
                self.meet(one, other)
                continue
            word, parts = self.forms[one]
            other_word, others = self.forms[other]
            if word != other_word or len(parts) != len(others):
                raise Clashing()
            self.stands[one] = other
            pile.extend(list(zip(parts, others)))

    def bind(self, letter, node):
        """Let a letter stand for a node, another root."""
        self.stands[letter] = node
        form = self.forms[node]
        if form is not None and form[1] and self.is_endless(node):
            raise Clashing()

    def is_endless(self, node):
        """Tell whether a node, a root, stands within itself."""
        stands = self.stands
        forms = self.forms
        # Kinds may share their parts: what was seen is kept, but where there are just a few.
        seen = {}
        pile = list(forms[node][1])
        while pile:
            root = pile.pop()
            while stands[root] != root:
                root = stands[root]
            if root == node:
                return True
            form = forms[root]
            if form is not None and form[1] and root not in seen:
                seen[root] = True
                pile.extend(form[1])
        return False

    def could_be(self, one, other):
        """Tell whether two kinds could be the same, with or without an end; what is met by that stays met."""
        pile = [(one, other)]
        while pile:
            one, other = pile.pop()
            one = self.root(one)
            other = self.root(other)
            if one == other:
                continue
            if self.forms[one] is None:
                self.stands[one] = other
            elif self.forms[other] is None:
                self.stands[other] = one
            else:
                word, parts = self.forms[one]
                other_word, others = self.forms[other]
                if word != other_word or len(parts) != len(others):
                    return False
                self.stands[one] = other
                pile.extend(list(zip(parts, others)))
        return True

    def text(self, node, names):
        """Tell the text of a kind; names holds the texts of letters, and is given those that come anew."""
        told = self.short_text(node, names)
        if told is not None:
            return told
        word, parts = self.forms[self.root(node)]
        texts = []
        for part in parts:
            texts.append(self.short_text(part, names))
            if texts[-1] is None:
                return pieces_text(self.pieces(node), names)
        return f"{texts[0]} -> {texts[1]}" if word == ARROW else " ".join([word, *texts])

    def short_text(self, node, names):
        """Tell the text of a letter, or of a kind without parts; None of others."""
        root = self.root(node)
        form = self.forms[root]
        if form is not None:
            return None if form[1] else form[0]
        if root not in names:
            names[root] = letter_text(len(names))
        return names[root]

    def pieces(self, first):
        """Tell a kind's pieces, from the left: (word, how many parts), and letters' nodes."""
        told = []
        pile = [first]
        while pile:
            root = self.root(pile.pop())
            form = self.forms[root]
            if form is None:
                told.append(root)
            else:
                word, parts = form
                told.append((word, len(parts)))
                pile.extend(parts[::-1])
        return told

    def anew(self, pieces):
        """Make a kind of pieces, with letters of its own; tell its node."""
        letters = {}
        done = []
        for piece in reversed(pieces):
            if isinstance(piece, int):
                if piece not in letters:
                    letters[piece] = self.letter()
                done.append(letters[piece])
            else:
                word, many = piece
                at = len(done) - many
                done[at:] = [self.made(word, tuple(done[at:][::-1]))]
        return done[0]


def pieces_text(pieces, names):
    """Tell the text of a kind's pieces; names holds the texts of letters, and is given those that come anew."""
    for piece in pieces:
        if isinstance(piece, int) and piece not in names:
            names[piece] = letter_text(len(names))
    # Of each kind that is told, its text, and whether it is an arrow, or has parts.
    done = []
    for piece in reversed(pieces):
        if isinstance(piece, int):
            done.append((names[piece], ""))
            continue
        word, many = piece
        if many == 0:
            done.append((word, ""))
        elif word == ARROW:
            (one, shape), (other, _) = done.pop(), done.pop()
            done.append((f"({one}) -> {other}" if shape == ARROW else f"{one} -> {other}", ARROW))
        else:
            parts = [word]
            for _ in range(many):
                text, shape = done.pop()
                parts.append(f"({text})" if shape else text)
            done.append((" ".join(parts), "parts"))
    return done[0][0]


def letter_text(number):
    """Tell the letter of a number from 0 on: a to z, then aa, ab and so on."""
    told = SMALL[number % len(SMALL)]
    while number >= len(SMALL):
        number = number // len(SMALL) - 1
        told = SMALL[number % len(SMALL)] + told
    return told
