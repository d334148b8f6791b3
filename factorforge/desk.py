"""Products as texts, and questions answered as texts."""

from factorforge.errors import BadAsk, BadProduct, BadText, NoPrime
from factorforge.forge import whole_parts
from factorforge.kinds import Rests, Wholes
from factorforge.parting import parts
from factorforge.polys import power, product_of, scaled, trimmed
from factorforge.texts import FIGURES, read, shown
from factorforge.wholes import whole_common

MOST_PAIRS = 24
MOST_OFTEN = 40
MOST_CONTENT_FIGURES = 100
MOST_PRIME_FIGURES = 60
PARTS_OF = "parts of "
PARTS_BY = "parts by "
COMMON_OF = "common of "


def product_shown(content, pairs):
    text = str(content)
    for g, often in pairs:
        polynomial = shown(g)
        text += f" * ({polynomial})"
        if often > 1:
            text += f"^{often}"
    return text


# What is taken apart here is written again and compared: so only what that would not find out is looked at.
def product_read(text):
    pieces = text.split(" * ")
    content = content_read(pieces[0])
    pairs = [pair_read(piece) for piece in pieces[1:]]
    if len(pairs) > MOST_PAIRS or product_shown(content, pairs) != text:
        raise BadProduct("the text is not written as products are")
    return (content, pairs)


def content_read(text):
    if text.startswith("-"):
        return -number_read(text[1:], MOST_CONTENT_FIGURES)
    return number_read(text, MOST_CONTENT_FIGURES)


def number_read(text, most_figures):
    if not is_figures(text, most_figures):
        raise BadProduct("something else stands in a number's place")
    return int(text)


def is_figures(text, most):
    return 1 <= len(text) <= most and all([sign in FIGURES for sign in text])


def pair_read(text):
    halves = text.partition(")")
    return (polynomial_read(halves[0][1:]), often_read(halves[2]))


def polynomial_read(text):
    try:
        return read(text)
    except BadText:
        raise BadProduct("something else stands in a polynomial's place") from None


def often_read(text):
    if text == "":
        return 1
    often = number_read(text[1:], len(str(MOST_OFTEN)))
    if often > MOST_OFTEN:
        raise BadProduct("a polynomial is taken too often")
    return often


# Nought is told ahead of everything: the product of the others may be of any degree then.
def multiplied(content, pairs):
    kind = Wholes()
    if content == 0 or any([not trimmed(kind, g) for g, often in pairs]):
        return []
    powers = [power(kind, g, often) for g, often in pairs]
    return scaled(kind, product_of(kind, powers), content)


def asked(line):
    if line.startswith(PARTS_OF):
        return parts_answer(line[len(PARTS_OF):])
    if line.startswith(PARTS_BY):
        return parts_by_answer(line[len(PARTS_BY):])
    if line.startswith(COMMON_OF):
        return common_answer(line[len(COMMON_OF):])
    raise BadAsk("the line has none of the beginnings")


def parts_answer(text):
    answer = whole_parts(read(text))
    return product_shown(answer[0], answer[1])


def parts_by_answer(text):
    halves = text.partition(" of ")
    if halves[1] == "" or not is_figures(halves[0], MOST_PRIME_FIGURES):
        raise BadAsk("the line has none of the beginnings")
    if halves[0].startswith("0"):
        raise NoPrime("the prime begins with a nought")
    kind = Rests(int(halves[0]))
    answer = parts(kind, read(halves[2]))
    return product_shown(answer[0], answer[1])


def common_answer(text):
    halves = text.partition(" and ")
    if halves[1] == "":
        raise BadAsk("the line has none of the beginnings")
    f = read(halves[0])
    g = read(halves[2])
    return shown(whole_common(f, g))
