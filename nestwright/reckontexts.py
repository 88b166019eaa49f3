"""Texts of reckonings, told and read."""

from nestwright.errors import BadText
from nestwright.polytexts import fraction_text, read_fraction

LETTERS = "abcdefghijklmnopqrstuvwxyz"
MOST_LETTERS = 6
KEPT = ("x", "of", "again")
NUMBERED = ("power", "again")
NUMBERS = ("0", "1", "2", "3", "4", "5", "6")
MARKS = {"plus": "+", "minus": "-", "times": "*", "of": "of", "power": "^", "again": "again"}
SORTS = {"+": "plus", "-": "minus", "*": "times", "of": "of", "^": "power", "again": "again"}


def term_text(term):
    """A term's text."""
    sort = term[0]
    if sort == "x":
        return "x"
    if sort == "number":
        return fraction_text(term[1])
    if sort == "name":
        return term[1]
    last = str(term[2]) if sort in NUMBERED else term_text(term[2])
    return f"({MARKS[sort]} {term_text(term[1])} {last})"


def reckoning_text(reckoning):
    """A reckoning's text, a row for each of its rows."""
    return "\n".join([f"{name} = {term_text(term)}" for name, term in reckoning])


def is_name(word):
    """Whether a word may be a row's name."""
    if word in KEPT or not 1 <= len(word) <= MOST_LETTERS:
        return False
    return all([sign in LETTERS for sign in word])


def number_is_due(opened):
    """Whether the innermost open bracket waits for its K."""
    return len(opened) > 0 and opened[-1][0] in NUMBERED and len(opened[-1]) == 2


def open_bracket(opened, word):
    """Puts the sort of the bracket that a word opens behind those that are open."""
    if word[1:] not in SORTS or number_is_due(opened):
        raise BadText(0)
    opened.append([SORTS[word[1:]]])


def close_bracket(opened, last):
    """The term of the innermost open bracket, whose last part this is."""
    if not opened or len(opened[-1]) != 2:
        raise BadText(0)
    sort, first = opened.pop()
    return (sort, first, last)


def read_plain(opened, word):
    """What a word without brackets stands for: a K where one is due, else a term."""
    if number_is_due(opened):
        if word not in NUMBERS:
            raise BadText(0)
        return int(word)
    if word == "x":
        return ("x",)
    if is_name(word):
        return ("name", word)
    return ("number", read_fraction(word))


def read_term(text):
    """The term that has this text."""
    # Open brackets, each a list of its sort and the parts read so far, are kept in a
    # list and not in calls, so that a text of open brackets alone can't exhaust these.
    opened = []
    words = text.split(" ")
    for at, word in enumerate(words):
        if word.startswith("("):
            open_bracket(opened, word)
            continue
        plain = word.rstrip(")")
        part = read_plain(opened, plain)
        for step in range(len(word) - len(plain)):
            part = close_bracket(opened, part)
        if opened:
            opened[-1].append(part)
        elif at == len(words) - 1:
            return part
        else:
            break
    raise BadText(0)


def read_row(row):
    """A row's name and term."""
    name, equals, term = row.partition(" = ")
    if not equals or not is_name(name):
        raise BadText(0)
    return (name, read_term(term))


def read_reckoning(text):
    """The reckoning that has this text; refused at the first row that isn't so."""
    rows = []
    for at, row in enumerate(text.split("\n")):
        try:
            rows.append(read_row(row))
        except BadText:
            raise BadText(at) from None
    return tuple(rows)
