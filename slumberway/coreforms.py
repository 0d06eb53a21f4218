"""The forms of a core's names, places and parts: each judged by itself, whatever stands within."""

from slumberway.lexemes import GREAT

# No tuple has more things; no word has more signs, but for a name's point and number; no number is as great.
MOST_THINGS = 60
MOST_SIGNS = 100
TOO_GREAT = 10 ** 60
DEEDS = ("plus", "less", "times", "below", "same")


def is_whole(thing):
    return isinstance(thing, int) and thing is not True and thing is not False


def is_number(thing):
    """Tell whether a thing is a whole number from 0 on, of at most sixty figures."""
    return isinstance(thing, int) and 0 <= thing < TOO_GREAT and thing is not True and thing is not False


def is_maker(thing):
    """Tell whether a thing is a great letter, then small ones and figures."""
    if not isinstance(thing, str) or not thing.isalnum() or not thing.isascii() or len(thing) > MOST_SIGNS:
        return False
    return thing[0] in GREAT and thing[1:] == thing[1:].lower()


def is_plain_name(thing):
    """Tell whether a thing is a name without a point."""
    return is_name(thing) and "." not in thing


def is_name(thing):
    # A figure is less than any small letter.
    if not isinstance(thing, str) or not thing.islower() or not thing.isascii() or thing[0] < "a":
        return False
    if thing.isalnum():
        return len(thing) <= MOST_SIGNS
    stem, _, number = thing.partition(".")
    return stem.isalnum() and number.isdecimal() and number[0] != "0" and len(stem) <= MOST_SIGNS


def is_place_number(thing, places):
    return isinstance(thing, int) and 0 <= thing < places and thing is not True and thing is not False


def is_row_of(thing, form):
    """Tell whether a thing is a tuple, not too long, of things of one form."""
    if not isinstance(thing, tuple) or len(thing) > MOST_THINGS:
        return False
    return all([form(one) for one in thing])


def is_atom(thing, places):
    if not isinstance(thing, tuple) or len(thing) != 3 or not is_place_number(thing[1], places):
        return False
    return is_named(thing, "num") and is_number(thing[2]) or is_named(thing, "name") and is_name(thing[2])


def is_named(thing, word):
    return isinstance(thing[0], str) and thing[0] == word


def are_atoms(thing, places):
    if not isinstance(thing, tuple) or len(thing) > MOST_THINGS:
        return False
    return all([is_atom(atom, places) for atom in thing])


def is_con(part, places):
    return len(part) == 4 and is_maker(part[2]) and are_atoms(part[3], places)


def is_call(part, places):
    if len(part) != 4 or not is_atom(part[2], places) or part[2][0] != "name":
        return False
    return are_atoms(part[3], places) and len(part[3]) > 0


def is_fun(part, places):
    return len(part) == 4 and is_row_of(part[2], is_name) and len(part[2]) > 0


def is_binding(thing):
    return isinstance(thing, tuple) and len(thing) == 2 and is_name(thing[0])


def is_let(part, places):
    return len(part) == 4 and is_row_of(part[2], is_binding) and len(part[2]) > 0


def is_alternative(thing):
    if not isinstance(thing, tuple) or len(thing) != 3 or not is_row_of(thing[1], is_name):
        return False
    return is_maker(thing[0]) or is_number(thing[0]) and not thing[1]


def is_case(part, places):
    if len(part) != 6 or not is_name(part[3]) or not is_row_of(part[4], is_alternative):
        return False
    return len(set([what for what, _, _ in part[4]])) == len(part[4])


def is_deed(part, places):
    return len(part) == 5 and isinstance(part[2], str) and part[2] in DEEDS


def is_fault(part, places):
    return len(part) == 3 and is_plain_name(part[2])


def is_early(part, places):
    return len(part) == 6 and is_name(part[2]) and is_place_number(part[4], places)


def is_now(part, places):
    return len(part) == 5 and is_place_number(part[2], places) and is_name(part[3])


# By its word, whether a tuple that has a place is a part by its own form.
FORMS = {
    "num": is_atom,
    "name": is_atom,
    "con": is_con,
    "call": is_call,
    "fun": is_fun,
    "let": is_let,
    "case": is_case,
    "deed": is_deed,
    "fault": is_fault,
    "early": is_early,
    "now": is_now,
}


def is_part(thing, places):
    """Tell whether a thing is a part by its own form, where there are so many places."""
    if not isinstance(thing, tuple) or len(thing) < 3 or not isinstance(thing[0], str):
        return False
    if thing[0] not in FORMS or not is_place_number(thing[1], places):
        return False
    form = FORMS[thing[0]]
    return form(thing, places)
