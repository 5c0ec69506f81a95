"""Matchings of tables, and the lots of rows that show why no matching has more."""


def most(table, rows):
    """Return the most rows of the lot that one matching has."""
    return len(_mates_of(table, rows))


def matching(table, rows, columns):
    """Return a matching that has as many of these rows and as many of these columns as any has."""
    mates = _mates_of(table, rows)
    # Rows and columns change their parts: so all rows stay, and columns come in.
    owners = _with_more(_rows_by_column(table), columns, {mates[row]: row for row in mates})
    return sorted([(row, column) for column, row in owners.items()])


def with_most(table, told):
    """Return a matching that has as many rows as any has, and all rows and columns of the matching that is given."""
    rows = list(range(len(table)))
    mates = _with_more({row: table[row] for row in rows}, rows, {row: column for row, column in told})
    return sorted([(row, column) for row, column in mates.items()])


def _mates_of(table, rows):
    """Return a dict from as many of the rows as one matching can have to their columns, and from no others."""
    return _with_more({row: table[row] for row in rows}, rows, {})


def _rows_by_column(table):
    """Return a dict from each column that is a partner to the ascending list of the rows whose partner it is."""
    found = {}
    for row, columns in enumerate(table):
        for column in columns:
            found.setdefault(column, []).append(row)
    return found


def _with_more(partners_of, wanted, mates):
    """Return a matching, a dict from rows to columns, that has as many of the wanted rows as any has.

    It has all columns of the matching that is given, and all its wanted rows.
    """
    grown = {row: mates[row] for row in mates}
    owners = {grown[row]: row for row in grown}
    stays = {row: True for row in wanted}
    # Each row is tried once: one that finds no way finds none either when more of the others have columns.
    for row in wanted:
        steps = [] if row in grown else _steps_to_more(partners_of, grown, owners, stays, row)
        if steps:
            grown.pop(owners.get(steps[0][1]), None)
        for taker, column in steps:
            grown[taker] = column
            owners[column] = taker
    return grown


def _steps_to_more(partners_of, mates, owners, stays, start):
    """Return new tuples (row, column) by which the row gets a column, or [] if there are none.

    The first one takes a column that is free, or whose row need not stay; each other one takes the column that
    the row of the one ahead gives up; the last one is that of the row itself.
    """
    takers = {}
    queue = [start]
    at = 0
    while at < len(queue):
        row = queue[at]
        for column in partners_of.get(row, []):
            if column not in takers:
                takers[column] = row
                if owners.get(column) not in stays:
                    return _traced(mates, takers, column)
                queue.append(owners[column])
        at += 1
    return []


def _traced(mates, takers, last):
    """Return the tuples (row, column) from the last column back to the row that has no column yet."""
    steps = []
    column = last
    while column is not None:
        steps.append((takers[column], column))
        column = mates.get(takers[column])
    return steps


def is_matching(table, told):
    """Return True if the list of tuples of two integers is a matching of the table, otherwise False."""
    if not is_ascending([row for row, _ in told]) or len(set([column for _, column in told])) < len(told):
        return False
    return all([0 <= row < len(table) and column in table[row] for row, column in told])


def is_ascending(numbers):
    """Return True if each number of the list is greater than the one ahead of it, otherwise False."""
    return all([one < other for one, other in zip(numbers, numbers[1:])])


def partners(table, rows):
    """Return the ascending list of all partners of the rows."""
    return sorted({column for row in rows for column in table[row]})


def lack(table, rows):
    """Return the lack of the lot."""
    return len(rows) - len(partners(table, rows))


def lacks_more(table, rows, told, bound):
    """Return True if the list is a lot of these rows only and its lack is above the bound, otherwise False."""
    return is_ascending(told) and all([row in rows for row in told]) and lack(table, told) > bound


def least_lot(table, rows):
    """Return the least part of the lot that lacks most."""
    mates = _mates_of(table, rows)
    owners = {mates[row]: row for row in mates}
    # Each part that lacks most has the rows that go without, and with a row those that hold its partners.
    queue = [row for row in rows if row not in mates]
    found = {row: True for row in queue}
    at = 0
    while at < len(queue):
        row = queue[at]
        for column in table[row]:
            owner = owners[column]
            if owner not in found:
                found[owner] = True
                queue.append(owner)
        at += 1
    return sorted(queue)


def turned_table(table, many):
    """Return the turned table for so many columns."""
    found = _rows_by_column(table)
    return [found.get(column, []) for column in range(many)]
