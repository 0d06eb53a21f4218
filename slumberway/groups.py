"""Groups: names that use one another, directly or by others, in their order."""

from slumberway.walks import free_names


def groups(defs):
    """Tell the list of the groups of top defs, in their order, each a list of its defs in the order of the text."""
    tops = {one[2]: one for one in defs}
    used = {one[2]: [name for _, name in free_names([one]) if name in tops] for one in defs}
    return [[tops[name] for name in group] for group in grouped(used)]


def grouped(used):
    """Tell the groups, in their order, lists of names, by a dict from all names to those that each uses."""
    names = list(used)
    numbers = {name: number for number, name in enumerate(names)}
    # Of each name a row of bits, for those that it uses, directly or by others.
    reached = []
    for name in names:
        bits = 0
        for other in used[name]:
            bits |= 1 << numbers[other]
        reached.append(bits)
    for middle in range(len(names)):
        ahead = reached[middle]
        if ahead:
            reached = [bits | ahead if bits >> middle & 1 else bits for bits in reached]
    waiting = []
    gathered = 0
    for number, bits in enumerate(reached):
        if gathered >> number & 1:
            continue
        own = 1 << number
        for other in range(number + 1, len(names)):
            if bits >> other & 1 and reached[other] >> number & 1:
                own |= 1 << other
        gathered |= own
        waiting.append((own, bits & ~own))
    return [[name for number, name in enumerate(names) if own >> number & 1] for own in in_order(waiting)]


def in_order(waiting):
    """Tell groups, (own, needs), in their order: again and again the first that needs none that isn't there yet."""
    told = []
    there = 0
    while waiting:
        at = 0
        while waiting[at][1] & ~there:
            at += 1
        own, _ = waiting[at]
        waiting = [*waiting[:at], *waiting[at + 1:]]
        there |= own
        told.append(own)
    return told
