"""Names of places and letters."""

KEPT_WORDS = ("place", "letter", "rule", "own", "arrow", "ends", "one", "other")
MOST_SIGNS = 6


def is_name(text):
    if not 1 <= len(text) <= MOST_SIGNS or text in KEPT_WORDS:
        return False
    # Python's own islower would let by small letters beyond a to z.
    return all(["a" <= sign <= "z" for sign in text])


def numbers_by_name(names):
    numbers = {}
    for number, name in enumerate(names):
        numbers[name] = number
    return numbers
