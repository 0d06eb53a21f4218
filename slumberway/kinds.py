"""The kinds of texts: what is demanded of them, their widest meeting, and where they can't meet."""

from slumberway.coreforms import is_whole
from slumberway.errors import NoAddress, NoName
from slumberway.judging import Judging, gone_through, judged, refuse_fault, with_demands
from slumberway.looked import look
from slumberway.quick import quick_of
from slumberway.reader import tree_of

# What stands in a tree's tuples, by the tuple's own word, or by what it is, and the number of the part.
LEADS = {
    ("def", 3): "equations",
    ("rule", 2): "sides",
    ("call", 2): "e",
    ("call", 3): "es",
    ("op", 3): "e",
    ("op", 4): "e",
    ("fun", 3): "e",
    ("let", 2): "lines",
    ("let", 3): "e",
    ("if", 2): "e",
    ("if", 3): "e",
    ("if", 4): "e",
    ("case", 2): "e",
    ("case", 3): "choices",
}
# The same of what is alike in all of its parts.
ROWS = {"lines": "line", "equations": "rule", "choices": "rule", "sides": "side", "es": "e", "side": "e"}


def kinds(text):
    """Tell a dict from a text's top names, sorted, to the texts of their widest kinds; Clash or Endless of a fault."""
    return kind_texts(judged(tree_of(text), False))


def kind_texts(judging):
    return {name: judging.top_text(name) for name in sorted(judging.tops)}


def demands(text, name):
    """Tell the demands of a top name's group, (place, one, other) with texts of kinds before anything is met."""
    tree = tree_of(text)
    judging = quick_of(tree, False)
    if judging is None:
        look(tree)
        judging = Judging(tree)
    if name not in [line[2] for line in tree if line[0] == "def"]:
        raise NoName(name)
    judging.solve({name: True})
    refuse_fault(judging)
    base = judging.base()
    names = {}
    return [(place, base.text(one, names), base.text(other, names)) for place, one, other in judging.demands]


def kind_at(text, address):
    """Tell the text of the kind of an expression in a text's tree; NoAddress where none is there."""
    tree = tree_of(text)
    return kind_in(tree, judged(tree, True), address)


def kind_in(tree, judging, address):
    """Tell the text of a kind as kind_at does, of a tree that was judged, and its kinds kept."""
    e = expression_at(tree, address)
    return judging.text_at(tree[address[0]][2], e)


def chain(text):
    """Tell numbers of demands that can't all be met, though all but any one can; None of a text that has kinds."""
    judging = gone_through(tree_of(text), False)
    if judging.fault is None:
        return None
    return least(judging.demands, judging.base(), list(range(judging.fault + 1)))


def chain_judged(text, numbers):
    """Tell whether a thing is such a list as chain tells."""
    judging = gone_through(tree_of(text), False)
    if judging.fault is None or not isinstance(numbers, list):
        return False
    last = -1
    for number in numbers:
        if not is_whole(number) or number <= last or number >= len(judging.demands):
            return False
        last = number
    base = judging.base()
    if with_demands(base, judging.demands, numbers) is not None:
        return False
    return none_to_spare(judging.demands, base, numbers)


def expression_at(tree, address):
    """Tell the expression at an address of a tree."""
    if not isinstance(address, tuple):
        raise NoAddress(address)
    role = "lines"
    thing = tree
    for number in address:
        if not is_whole(number):
            raise NoAddress(address)
        form = thing[0] if role in ("line", "e") else role
        if form in ROWS and 0 <= number < len(thing):
            role = ROWS[form]
        else:
            role = LEADS.get((form, number))
        if role is None or thing[number] is None:
            raise NoAddress(address)
        thing = thing[number]
    if role != "e":
        raise NoAddress(address)
    return thing


def least(found, met, numbers):
    """Tell which of the numbers, none to spare, can't all be met behind what was met; of all of them that is so.

    Calls within calls halve the numbers, so there are few of them.
    """
    if met is None:
        return []
    if len(numbers) == 1:
        return numbers
    half = len(numbers) // 2
    behind = least(found, with_demands(met, found, numbers[:half]), numbers[half:])
    ahead = least(found, with_demands(met, found, behind), numbers[:half])
    return ahead + behind


def none_to_spare(found, blank, numbers):
    """Tell whether all but any one of the numbers' demands can be met."""
    # Of each of the pile, all numbers but those that are left over were met.
    pile = [(blank, numbers)]
    while pile:
        met, left = pile.pop()
        if met is None:
            return False
        if len(left) > 1:
            half = len(left) // 2
            pile.append((with_demands(met, found, left[:half]), left[half:]))
            pile.append((with_demands(met, found, left[half:]), left[:half]))
    return True
