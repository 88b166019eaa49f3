"""Texts of fractions and of polynomials, told and read."""

from nestwright.errors import BadText
from nestwright.fractions import fraction
from nestwright.polys import degree, fraction_at, poly

FIGURES = "0123456789"
MOST_FIGURES = 40
MOST_DEGREE = 24


def whole_text(number):
    """The text of a whole number from 0 on, of any size."""
    # Piece by piece, as Python's own way to a text stops at some thousands of figures.
    step = 10 ** 64
    pieces = []
    while number >= step:
        number, low = divmod(number, step)
        pieces.append(str(low).zfill(64))
    pieces.append(str(number))
    return "".join(reversed(pieces))


def fraction_text(r):
    """A fraction's text: its top, and the bottom behind it where that isn't 1."""
    top, bottom = r
    text = whole_text(abs(top))
    if top < 0:
        text = "-" + text
    if bottom != 1:
        text += "/" + whole_text(bottom)
    return text


def word_text(r, k):
    """The word of a fraction above 0 at the letter's power k."""
    if k == 0:
        return fraction_text(r)
    letter = "x" if k == 1 else f"x^{k}"
    if r == (1, 1):
        return letter
    return f"{fraction_text(r)} {letter}"


def poly_text(p):
    """A polynomial's text, from the degree down."""
    text = ""
    for k in range(degree(p), -1, -1):
        top, bottom = fraction_at(p, k)
        if top == 0:
            continue
        if text:
            text += " - " if top < 0 else " + "
        elif top < 0:
            text = "-"
        text += word_text((abs(top), bottom), k)
    return text or "0"


def read_whole(text):
    """The whole number of one to forty figures."""
    if not 1 <= len(text) <= MOST_FIGURES or any([sign not in FIGURES for sign in text]):
        raise BadText(0)
    return int(text)


def read_fraction(text):
    """The fraction that has this text."""
    below = text.startswith("-")
    top, slash, bottom = (text[1:] if below else text).partition("/")
    under = read_whole(bottom) if slash else 1
    if under == 0:
        raise BadText(0)
    r = fraction(-read_whole(top) if below else read_whole(top), under)
    # Each fraction has one text alone, so any other way to write it is refused here.
    if fraction_text(r) != text:
        raise BadText(0)
    return r


def read_power(letter):
    """The k of the letter's power, as far as degrees in texts go."""
    if letter == "x":
        return 1
    if not letter.startswith("x^"):
        raise BadText(0)
    k = read_whole(letter[2:])
    if k > MOST_DEGREE:
        raise BadText(0)
    return k


def read_word(word):
    """A word as the pair of its power and its fraction."""
    number, blank, letter = word.partition(" ")
    if blank:
        return (read_power(letter), read_fraction(number))
    if word.startswith("x"):
        return (read_power(word), (1, 1))
    if word.startswith("-x"):
        return (read_power(word[1:]), (-1, 1))
    return (0, read_fraction(word))


def read_poly(text):
    """The polynomial that has this text."""
    found = {}
    for word in text.replace(" - ", " + -").split(" + "):
        k, r = read_word(word)
        found[k] = r
    p = poly([found.get(k, (0, 1)) for k in range(MOST_DEGREE + 1)])
    # Each polynomial has one text alone, so order, signs, blanks and noughts are all
    # held here: what isn't told again as it was read is no such text.
    if poly_text(p) != text:
        raise BadText(0)
    return p
