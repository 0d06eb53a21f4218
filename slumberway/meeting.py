"""Kinds as numbered nodes, the widest meeting of demands that two be the same, and their texts."""

from slumberway.lexemes import SMALL

ARROW = "->"


class Table:
    """All kinds made so far: each node is None, a letter, or a word and the nodes of its parts."""

    def __init__(self):
        self.nodes = []

    def letter(self):
        """Make a letter of its own, and tell its node."""
        self.nodes.append(None)
        return len(self.nodes) - 1

    def made(self, word, parts):
        """Make a kind of a word and parts, and tell its node."""
        self.nodes.append((word, tuple(parts)))
        return len(self.nodes) - 1

    def leading(self, parts, last):
        """Make the kind that leads from some kinds, one behind the other, to a last one."""
        for part in reversed(parts):
            last = self.made(ARROW, (part, last))
        return last


class Meeting:
    """What nodes stand for, by the demands met so far; whole while all of them can be met."""

    def __init__(self, table, stands):
        self.table = table
        # From nodes to others that they are the same as; the last one of such a chain is their root.
        self.stands = stands
        self.whole = True
        self.endless = False

    def twin(self):
        """Tell a meeting of its own that has met the same."""
        told = Meeting(self.table, dict(self.stands))
        told.whole = self.whole
        told.endless = self.endless
        return told

    def root(self, node):
        """Tell the node that a node stands for."""
        root = node
        while root in self.stands:
            root = self.stands[root]
        while node != root:
            # What was passed is led straight to the root, so that chains stay short.
            ahead = self.stands[node]
            self.stands[node] = root
            node = ahead
        return root

    def parts(self, node):
        """Tell (word, nodes) of a node's root, None of a letter."""
        return self.table.nodes[self.root(node)]

    def meet(self, one, other):
        """Demand that two kinds be the same; endless is set where only kinds without end could be."""
        if not self.whole:
            return
        bound = self.united(one, other)
        if self.whole and self.turns_back(bound):
            self.whole = False
            self.endless = True

    def united(self, one, other):
        """Make two kinds the same, where they can be, with or without an end; tell the letters bound by that."""
        bound = []
        pile = [(one, other)]
        while pile:
            one, other = pile.pop()
            one = self.root(one)
            other = self.root(other)
            if one == other:
                continue
            if self.table.nodes[one] is None:
                self.stands[one] = other
                bound.append(one)
            elif self.table.nodes[other] is None:
                self.stands[other] = one
                bound.append(other)
            elif self.same_form(one, other):
                self.stands[one] = other
                pile.extend(list(zip(self.table.nodes[one][1], self.table.nodes[other][1])))
            else:
                self.whole = False
                return bound
        return bound

    def same_form(self, one, other):
        word, parts = self.table.nodes[one]
        other_word, other_parts = self.table.nodes[other]
        return word == other_word and len(parts) == len(other_parts)

    def turns_back(self, nodes):
        """Tell whether a way down from some nodes comes to where it was."""
        # A node is there with True while the way is below it, with False when all below it was gone by.
        seen = {}
        pile = [(node, False) for node in nodes]
        while pile:
            node, left = pile.pop()
            root = self.root(node)
            if left:
                seen[root] = False
            elif seen.get(root) is True:
                return True
            elif root not in seen and self.table.nodes[root] is not None:
                seen[root] = True
                pile.append((root, True))
                pile.extend([(part, False) for part in self.table.nodes[root][1]])
        return False

    def anew(self, first):
        """Make a kind like that of a node, with letters of its own in the stead of its letters."""
        told = {}
        pile = [(first, False)]
        while pile:
            node, left = pile.pop()
            root = self.root(node)
            made = self.table.nodes[root]
            if root in told:
                continue
            if made is None:
                told[root] = self.table.letter()
            elif left:
                told[root] = self.table.made(made[0], [told[self.root(part)] for part in made[1]])
            else:
                pile.append((root, True))
                pile.extend([(part, False) for part in made[1]])
        return told[self.root(first)]

    def text(self, node, names):
        """Tell the text of a node's kind; names holds the texts of letters, and is given those that come anew."""
        told = []
        pile = [(node, ())]
        while pile:
            piece, in_brackets = pile.pop()
            if isinstance(piece, str):
                told.append(piece)
                continue
            made = self.parts(piece)
            if made is None:
                root = self.root(piece)
                names.setdefault(root, letter_text(len(names)))
                told.append(names[root])
            elif shape(made) in in_brackets:
                pile.extend([(")", ()), (piece, ()), ("(", ())])
            else:
                pile.extend(kind_pieces(made)[::-1])
        return "".join(told)


def shape(made):
    """Tell of which shape a kind is that is no letter: an arrow, a word with parts, or a word alone."""
    if made[0] == ARROW:
        return "arrow"
    return "parts" if made[1] else "alone"


def kind_pieces(made):
    """Tell the pieces of a kind's text, words and nodes, each with the shapes that get brackets there."""
    word, parts = made
    if word == ARROW:
        return [(parts[0], ("arrow",)), (" -> ", ()), (parts[1], ())]
    told = [(word, ())]
    for part in parts:
        told.extend([(" ", ()), (part, ("arrow", "parts"))])
    return told


def letter_text(number):
    """Tell the letter of a number from 0 on: a to z, then aa, ab and so on."""
    told = SMALL[number % len(SMALL)]
    while number >= len(SMALL):
        number = number // len(SMALL) - 1
        told = SMALL[number % len(SMALL)] + told
    return told
