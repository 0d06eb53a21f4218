"""What runs tell: answers, with the places of their pieces, and costs."""

from slumberway.coreforms import is_whole
from slumberway.errors import NoCount, NoName
from slumberway.runs import RunEnd

DEEPEST = 100
MOST_OF_ALL = 10 ** 6


def refuse_asked(there, x, depth, most):
    """Refuse a name that isn't there, and a depth or most out of bounds."""
    if not isinstance(x, str) or x not in there:
        raise NoName(x)
    if not is_whole(depth) or not 0 <= depth <= DEEPEST:
        raise NoCount()
    if not is_whole(most) or not 1 <= most <= MOST_OF_ALL:
        raise NoCount()


def ran(run, x, depth):
    """Tell the answer of a run's top, and what it costs."""
    return (told_answer(run, x, depth), told_costs(run))


def told_answer(run, x, depth):
    try:
        return whole_answer(run, x, depth)
    except RunEnd as end:
        return end.answer


def whole_answer(run, x, depth):
    """Tell the answer of a run that comes to its end."""
    texts = []
    pieces = []
    # What is still to be told, the next one last: pieces of the text, and things, each with how many makers deep it is.
    pile = [(run.top(x), 0)]
    while pile:
        thing, deep = pile.pop()
        if deep is None:
            texts.append(thing)
            continue
        head = run.head(thing)
        what = "FUN" if head[0] == "fun" else head[2]
        pieces.append((what, head[1]))
        texts.append(str(what))
        if head[0] == "con" and head[3]:
            if deep == depth:
                texts.append("(" + ", ".join([".."] * len(head[3])) + ")")
                continue
            pile.append((")", None))
            for thing in run.things(head)[::-1]:
                pile.extend([(thing, deep + 1), (", ", None)])
            pile[-1] = ("(", None)
    return ("told", "".join(texts), pieces)


def told_costs(run):
    """Tell the list of (p, gone, made, asked) of the places at which something was counted."""
    return [(p, gone, made, asked) for p, (gone, made, asked) in enumerate(zip(run.gone, run.made, run.asked))
            if gone or made or asked]
