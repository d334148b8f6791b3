"""Polynomials over the whole numbers of which it is known that they are bare and have no parts."""

# Numbers of up to 68 figures, but for the lead all even and the first not a multiple of four (so 2 shows it).
LONG_ONE = [2 * (10 ** 66 + 1)] + [2 * (k * 10 ** 60 + k) * (-1) ** k for k in range(1, 12)] + [10 ** 67 + 1]

WITHOUT_PARTS = [
    [0, 1], [1, 1], [-1, 1], [-3, 2], [5, 7], [1, 0, 1], [-2, 0, 1], [1, 1, 1], [-3, 0, 2], [5, -4, 3],
    [-2, 0, 0, 1], [-1, -1, 0, 1], [3, 0, 0, 2], [1, 0, 0, 0, 1], [1, 0, -10, 0, 1], [1, 1, 1, 1, 1],
    [-1, -1, 0, 0, 0, 1], [1, 1, 1, 1, 1, 1, 1], [576, 0, -960, 0, 352, 0, -40, 0, 1], [1, 0, 0, 0, 0, 0, 0, 0, 1],
    # The roots of 1 of the orders 13, 21, 28 and 36, and x^12 - x - 1.
    [1] * 13, [1, -1, 0, 1, -1, 0, 1, 0, -1, 1, 0, -1, 1], [1, 0, -1, 0, 1, 0, -1, 0, 1, 0, -1, 0, 1],
    [1] + [0] * 5 + [-1] + [0] * 5 + [1], [-1, -1] + [0] * 10 + [1], LONG_ONE,
]
