"""Names, things, letters and terms."""

SMALL = "abcdefghijklmnopqrstuvwxyz"
CAPITALS = "ABCDEFGHIJKLMNOPQRSTUVWXYZ"
FIGURES = "0123456789"
NAME_SIGNS = "abcdefghijklmnopqrstuvwxyz0123456789"
BARRED_NAMES = ("not", "unlike", "if")
LONGEST_NAME = 12
LONGEST_LETTER = 4


def is_integer(thing):
    """Whether any object is an integer; a truth is none."""
    return isinstance(thing, int) and not isinstance(thing, bool)


def is_name(thing):
    """Whether any object is a name."""
    if not isinstance(thing, str) or not 1 <= len(thing) <= LONGEST_NAME:
        return False
    if thing[0] not in SMALL or thing in BARRED_NAMES:
        return False
    return all([sign in NAME_SIGNS for sign in thing])


def is_thing(thing):
    """Whether any object is a thing, a name or an integer."""
    return is_integer(thing) or is_name(thing)


def is_letter(thing):
    """Whether any object is a letter."""
    if not isinstance(thing, str) or not 1 <= len(thing) <= LONGEST_LETTER:
        return False
    if thing[0] not in CAPITALS or thing[1:2] == "0":
        return False
    return all([sign in FIGURES for sign in thing[1:]])


def is_term(thing):
    """Whether any object is a term, a thing or a letter."""
    return is_thing(thing) or is_letter(thing)


def term_key(term):
    """What terms are ordered by: integers, then names, then letters by sign and number."""
    if isinstance(term, int):
        return (0, term)
    if term[0] in SMALL:
        return (1, term)
    return (2, term[0], int(term[1:] or "0"))


def nth_letter(number):
    """The letter with a number in A, B, .. Z, A1, B1, .."""
    sign = CAPITALS[number % len(CAPITALS)]
    if number < len(CAPITALS):
        return sign
    return sign + str(number // len(CAPITALS))
