"""The groups of a tree's top defs."""

from slumberway.walks import free_names


def used_names(defs):
    """Tell a dict from the names of some top defs to the lists of those of them that each uses."""
    tops = [one[2] for one in defs]
    told = {}
    for one in defs:
        found = [name for _, name in free_names([one])]
        told[one[2]] = [name for name in tops if name in found]
    return told


def all_used(used, name):
    """Tell the list of the names that a name uses, directly or by others."""
    told = []
    pile = [name]
    while pile:
        for other in used[pile.pop()]:
            if other not in told:
                told.append(other)
                pile.append(other)
    return told


def groups(defs):
    """Tell the list of the groups, in their order, each a list of its defs in the order of the text."""
    return [[one for one in defs if one[2] in group] for group in grouped(used_names(defs))]


def grouped(used):
    """Tell the groups, in their order, lists of names, by a dict from all names to those that each uses."""
    reached = {name: all_used(used, name) for name in used}
    waiting = []
    for name in used:
        partners = [other for other in reached[name] if name in reached[other]]
        if name not in [other for group in waiting for other in group]:
            waiting.append([other for other in used if other == name or other in partners])
    told = []
    there = []
    while waiting:
        at = first_ready(waiting, used, there)
        group = waiting.pop(at)
        there.extend(group)
        told.append(group)
    return told


def first_ready(waiting, used, there):
    """Tell which of the groups waiting is the first that uses none that isn't there yet."""
    for at, group in enumerate(waiting):
        needed = [name for one in group for name in used[one] if name not in group]
        if all([name in there for name in needed]):
            return at
    return None
