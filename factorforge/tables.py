"""Tables over Rests: products, the one form that rows can be brought to, and what makes rows noughts."""


def product(kind, ones, others):
    columns = [column(others, at) for at in range(len(others[0]))]
    return [row_product(kind, row, columns) for row in ones]


def column(rows, at):
    return [row[at] for row in rows]


def row_product(kind, row, columns):
    return [kind.plain(sum_of_products(row, one)) for one in columns]


def sum_of_products(ones, others):
    return sum([a * b for a, b in zip(ones, others)])


def unit_table(length):
    return [unit_row(at, length) for at in range(length)]


def unit_row(at, length):
    row = [0] * length
    row[at] = 1
    return row


def echelon(kind, rows):
    width = len(rows[0]) if rows else 0
    wide = cleared_beside_units(kind, rows, width)
    turn = [row[width:] for row in wide]
    # The form of turn is the unit table, so what turns it is what turns back.
    back = [row[len(rows):] for row in cleared_beside_units(kind, turn, len(rows))]
    return ([row[:width] for row in wide], turn, back)


# Each row has one of the unit table behind it, which keeps count of all that is done to the rows.
def cleared_beside_units(kind, rows, width):
    units = unit_table(len(rows))
    table = [plain_row(kind, row + unit) for row, unit in zip(rows, units)]
    done = 0
    for at in range(width):
        found = first_not_nought(table, at, done)
        if found is not None:
            table = with_column_cleared(kind, with_row_moved(table, found, done), at, done)
            done += 1
    return table


def plain_row(kind, row):
    return [kind.plain(number) for number in row]


# Which row from done on is the first that has not nought at that place, or None.
def first_not_nought(rows, at, done):
    for place in range(done, len(rows)):
        if rows[place][at] != 0:
            return place
    return None


def with_row_moved(rows, found, done):
    return rows[:done] + [rows[found]] + rows[done:found] + rows[found + 1:]


# The row done gets 1 at that place and every other row nought.
def with_column_cleared(kind, rows, at, done):
    factor = kind.over(1, rows[done][at])
    first = plain_row(kind, [factor * number for number in rows[done]])
    return [first if place == done else row_without(kind, row, at, first) for place, row in enumerate(rows)]


# As much of the first row taken off as leaves nought at that place.
def row_without(kind, row, at, first):
    return [kind.plain(number - row[at] * other) for number, other in zip(row, first)]


def kernel(kind, rows):
    told = echelon(kind, rows)
    return [turning for row, turning in zip(told[0], told[1]) if row == [0] * len(row)]
