"""Matchings of small tables whose rows are integers: the bits of a row are the columns that are its partners."""


def most_held(masks):
    """Return the most rows that one matching has."""
    owners, _ = _held(masks)
    return len(owners)


def least_part(masks):
    """Return the tuple of the lack of all rows and the ascending list of the least lot of them that lacks most."""
    owners, closed = _held(masks)
    held = {row: bit for bit, row in owners.items()}
    # Each lot that lacks most has the rows that go without, and those whose columns they can reach.
    lot = [row for row in range(len(masks)) if row not in held or held[row] & closed]
    return (len(masks) - len(owners), lot)


def union_of(masks):
    """Return all columns that are partners of some row."""
    union = 0
    for mask in masks:
        union |= mask
    return union


def bits_of(mask):
    """Return the ascending list of the columns of a row."""
    found = []
    while mask:
        found.append((mask & -mask).bit_length() - 1)
        mask &= mask - 1
    return found


def _held(masks):
    """Return a matching that has as many rows as any, a dict from single columns, as bits, to the rows that have them.

    And all columns that rows without one can reach by changing the columns of others. Returned is a tuple of both.
    """
    owners = {}
    taken, closed = 0, 0
    for row, mask in enumerate(masks):
        free = mask & ~taken
        if free:
            owners[free & -free] = row
            taken |= free & -free
        elif mask & ~closed:
            # Columns that could not be made free once never can be, however many rows follow.
            taken, closed = _with_row(masks, owners, taken, closed, row)
    return (owners, closed)


def _with_row(masks, owners, taken, closed, start):
    """Give a row a column by changing those of others, if that can be done; return what is taken and closed then."""
    takers = {}
    queue = [start]
    reached = closed
    at = 0
    while at < len(queue):
        row = queue[at]
        fresh = masks[row] & ~reached
        free = fresh & ~taken
        if free:
            _hand_over(owners, takers, row, free & -free)
            return (taken | (free & -free), closed)
        reached |= fresh
        while fresh:
            column = fresh & -fresh
            takers[column] = row
            queue.append(owners[column])
            fresh ^= column
        at += 1
    return (taken, reached)


def _hand_over(owners, takers, row, column):
    """Give the row the column, its former column to the taker of that one, and so on."""
    held = {owner: bit for bit, owner in owners.items()}
    while column is not None:
        owners[column] = row
        column = held.get(row)
        row = takers.get(column)
