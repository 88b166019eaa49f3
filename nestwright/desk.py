"""The desk: rows of text answered with texts."""

from nestwright.apart import apart, inner_degrees
from nestwright.chains import chains
from nestwright.chaintexts import chain_text
from nestwright.common import common_inner
from nestwright.errors import NoRow
from nestwright.halves import again_roots
from nestwright.kinds import kind
from nestwright.outer import common_outer, least_multiple
from nestwright.plains import alike, leaves, plain
from nestwright.polys import degree
from nestwright.polytexts import FIGURES, poly_text, read_poly
from nestwright.puts import put


def parted_texts(texts):
    """Texts as they stand beside one another in an answer."""
    return " | ".join(texts)


def poly_texts(some):
    """The texts of polynomials, parted."""
    return parted_texts([poly_text(p) for p in some])


def answer_put(number, polys):
    """P of Q."""
    return poly_text(put(polys[0], polys[1]))


def answer_degrees(number, polys):
    """P's inner degrees."""
    return " ".join([str(s) for s in inner_degrees(polys[0])])


def answer_apart(number, polys):
    """P taken apart by S."""
    word, first, last = apart(polys[0], number)
    if word == "made":
        return "made " + poly_texts([first, last])
    return f"barred {last} {poly_text(first)}"


def answer_chains(number, polys):
    """The whole chains of P."""
    return parted_texts([chain_text(chain) for chain in chains(polys[0])])


def answer_plain(number, polys):
    """P's plain one between the straight ones."""
    return poly_texts(plain(polys[0]))


def answer_leaves(number, polys):
    """The straight ones by which P stays."""
    return poly_texts(leaves(polys[0]))


def answer_alike(number, polys):
    """Whether P and Q are alike."""
    return "no" if alike(polys[0], polys[1]) is None else "yes"


def answer_inner(number, polys):
    """The greatest common inner one of P and Q."""
    return poly_text(common_inner(polys[0], polys[1])[0])


def answer_outer(number, polys):
    """The common outer ones of P and Q."""
    told = common_outer(polys[0], polys[1])
    return "none" if told[0] == "none" else poly_texts(told[1:])


def answer_again(number, polys):
    """All that, put in K times, make P."""
    return poly_texts(again_roots(polys[0], number)) or "none"


def answer_kind(number, polys):
    """The kind of the exchange of P and Q."""
    told = kind(polys[0], polys[1])
    return "none" if told is None else told[0][0]


ANSWERS = {
    "put": answer_put, "degrees": answer_degrees, "apart": answer_apart, "chains": answer_chains,
    "plain": answer_plain, "leaves": answer_leaves, "alike": answer_alike, "inner": answer_inner,
    "outer": answer_outer, "again": answer_again, "kind": answer_kind,
}
OF_TWO = ("put", "alike", "inner", "outer", "kind")
NUMBERED = ("apart", "again")
FROM_TWO_ON = ("chains", "plain", "leaves", "alike", "again", "kind")
AGAIN_TIMES = (2, 3, 4)
MOST_DEGREES = {"again": 16, "outer": 6}
MOST_DEGREE = 12


def read_number(text):
    """The whole number of one or two figures."""
    if not 1 <= len(text) <= 2 or any([sign not in FIGURES for sign in text]):
        raise NoRow()
    if len(text) == 2 and text[0] == "0":
        raise NoRow()
    return int(text)


def read_row(row):
    """A row's word, its number (None where none is due), and the texts of its polynomials."""
    word, blank, rest = row.partition(" ")
    if not blank or word not in ANSWERS:
        raise NoRow()
    parts = rest.split(" | ")
    if len(parts) != (2 if word in OF_TWO else 1):
        raise NoRow()
    if word not in NUMBERED:
        return (word, None, parts)
    number, blank, text = rest.partition(" ")
    if not blank:
        raise NoRow()
    return (word, read_number(number), [text])


def least_degree(word):
    """The least degree that is let with a word."""
    if word == "put":
        return -1
    return 2 if word in FROM_TWO_ON else 1


def are_let_together(word, number, degrees):
    """Whether degrees, each let by itself, are let with one another and with the number."""
    if word == "apart":
        return number > 0 and degrees[0] % number == 0
    if word == "again":
        return number in AGAIN_TIMES
    if word in ("put", "kind"):
        # The polynomial 0 counts as one of degree 0.
        return max(degrees[0], 0) * max(degrees[1], 0) <= MOST_DEGREE
    if word == "outer":
        return least_multiple(degrees[0], degrees[1]) <= MOST_DEGREE
    return True


def are_let(word, number, degrees):
    """Whether a word may be asked with these degrees and this number."""
    if min(degrees) < least_degree(word) or max(degrees) > MOST_DEGREES.get(word, MOST_DEGREE):
        return False
    return are_let_together(word, number, degrees)


def answered(row):
    """The desk's answer to a row."""
    word, number, texts = read_row(row)
    polys = [read_poly(text) for text in texts]
    if not are_let(word, number, [degree(p) for p in polys]):
        raise NoRow()
    answer = ANSWERS[word]
    return answer(number, polys)
