"""What two polynomials over Rests have in common, by Euclid's steps."""

from factorforge.polys import divided, less, scaled, times, trimmed


def common(kind, f, g):
    before = trimmed(kind, f)
    rest = trimmed(kind, g)
    while rest:
        behind = divided(kind, before, rest)[1]
        before = rest
        rest = behind
    return with_lead_one(kind, before)


def with_lead_one(kind, f):
    return scaled(kind, f, turned_lead(kind, f))


# What makes the lead 1 when multiplied with it; nought has no lead and stays as it is.
def turned_lead(kind, f):
    return kind.over(1, f[-1]) if f else 1


def shares(kind, f, g):
    # Each row is (d, a, b) with a * f + b * g = d, and Euclid's steps keep it so.
    before = (trimmed(kind, f), [1], [])
    row = (trimmed(kind, g), [], [1])
    while row[0]:
        often = divided(kind, before[0], row[0])[0]
        behind = row_less(kind, before, often, row)
        before = row
        row = behind
    factor = turned_lead(kind, before[0])
    return (scaled(kind, before[0], factor), scaled(kind, before[1], factor), scaled(kind, before[2], factor))


def row_less(kind, row, often, other):
    return (
        less(kind, row[0], times(kind, often, other[0])),
        less(kind, row[1], times(kind, often, other[1])),
        less(kind, row[2], times(kind, often, other[2])),
    )
