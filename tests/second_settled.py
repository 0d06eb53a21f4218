"""Which groups a workshop looks at anew (31), once more, from two texts' rows alone."""

from slumberway.kinds import kinds
from slumberway.lexemes import laid
from slumberway.reader import tree_of
from tests.second_kinds import free, groups


def makers_in(thing):
    """Tells the makers in a tree's tuples of expressions and patterns."""
    if not isinstance(thing, tuple):
        return set()
    told = {thing[2]} if len(thing) > 2 and thing[0] in ("maker", "made") and isinstance(thing[2], str) else set()
    return told.union(*map(makers_in, thing))


def maker_kind(text, maker):
    """Tells the text of a maker's kind: that of a name that is nothing else."""
    return kinds([*text, f"zzzzzzzz = {maker}"])["zzzzzzzz"]


def pieces(text, tree):
    """Tells of each def its lexemes and marks, from its first lexeme to its last."""
    told, all_pieces = {}, laid(text)
    ends = [line[1] for line in tree[1:]] + [(10 ** 6, 1)]
    for line, end in zip(tree, ends):
        if line[0] == "def":
            spots = [at for at, (place, sort, _) in enumerate(all_pieces) if sort != "mark" and line[1] <= place < end]
            told[line[2]] = [piece[1:] for piece in all_pieces[spots[0]:spots[-1] + 1]]
    return told


def looked_anew(text, last):
    """Tells the groups of a whole text that are looked at anew, set beside the last whole one, None where there is none."""
    tree, told = tree_of(text), []
    now = (pieces(text, tree), kinds(text))
    old = (pieces(last, tree_of(last)), kinds(last)) if last is not None else ({}, {})
    old_groups = [sorted(one[2] for one in group) for group in groups(tree_of(last))] if last is not None else []
    old_makers = {maker for line in tree_of(last) if line[0] == "data" for _, maker, _ in line[4]} if last is not None else set()
    for group in groups(tree):
        names = sorted(one[2] for one in group)
        anew = names not in old_groups or any(now[0][name] != old[0][name] for name in names)
        for one in group:
            anew = anew or any(old[1].get(name) != now[1][name] for name in free(one))
            for maker in sorted(makers_in(one[3]) - {"True", "False"}):
                anew = anew or maker not in old_makers or maker_kind(text, maker) != maker_kind(last, maker)
        if anew:
            told.append(names)
    return told
