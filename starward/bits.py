"""Matchings of small tables whose rows are integers: the bits of a row are the columns that are its partners."""


def most_held(masks):
    """Return the most rows that one matching has."""
    owners, _ = _held(masks)
    return len(owners)


def least_part(masks):
    """Return the tuple of the lack of all rows and the ascending list of the least lot of them that lacks most."""
    owners, closed = _held(masks)
    held = {row: bit for bit, row in owners.items()}
    # Each lot that lacks most has the rows that go without, and those whose columns they can reach.
    lot = [row for row in range(len(masks)) if row not in held or held[row] & closed]
    return (len(masks) - len(owners), lot)


def union_of(masks):
    """Return all columns that are partners of some row."""
    union = 0
    for mask in masks:
        union |= mask
    return union


def bits_of(mask):
    """Return the ascending list of the columns of a row."""
    found = []
    while mask:
        found.append((mask & -mask).bit_length() - 1)
        mask &= mask - 1
    return found


class Swaps:
    """What all matchings of a table with the most rows leave open."""

    def __init__(self, masks):
        self._owners, _ = _held(masks)
        self._held = {row: bit for bit, row in self._owners.items()}
        taken = union_of(list(self._owners))
        free_columns = union_of(masks) & ~taken
        # From each row those, as bits, that would have to change if it took another column, and so on.
        self._forced = _closed([self._owners_in(mask) for mask in masks])
        self._loose = 0
        for row in range(len(masks)):
            if row not in self._held:
                self._loose |= self._forced[row] | 1 << row
        ends = sum([1 << row for row, mask in enumerate(masks) if mask & free_columns])
        # A row that has a column is among those that would have to change, too.
        self._movable = [forced & ends != 0 for forced in self._forced]

    def _owners_in(self, mask):
        """Return the rows, as bits, that have one of these columns."""
        return sum([1 << row for bit, row in self._owners.items() if mask & bit])

    def many(self):
        """Return how many rows the matchings have."""
        return len(self._held)

    def can_omit(self, row):
        """Return True if some matching with the most rows does not have this one."""
        return self._loose >> row & 1 == 1

    def can_spare(self, column):
        """Return True if some matching with the most rows does not have this column."""
        owner = self._owners.get(1 << column)
        return owner is None or self._movable[owner]

    def can_hold(self, row, column):
        """Return True if some matching with the most rows has this row and this column, a partner, together."""
        owner = self._owners.get(1 << column)
        if owner == row or self.can_omit(row) or self.can_spare(column):
            return True
        # Otherwise both have others, and the one that has the column must come round to what the row gives up.
        return self._forced[owner] >> row & 1 == 1


def _closed(following):
    """Return what can be reached from each row, as bits, in one step or more."""
    reached = list(following)
    for middle in range(len(reached)):
        for row in range(len(reached)):
            if reached[row] >> middle & 1:
                reached[row] |= reached[middle]
    return reached


def _held(masks):
    """Return a matching that has as many rows as any, a dict from single columns, as bits, to the rows that have them.

    And all columns that rows without one can reach by changing the columns of others. Returned is a tuple of both.
    """
    owners = {}
    taken, closed = 0, 0
    for row, mask in enumerate(masks):
        free = mask & ~taken
        if free:
            owners[free & -free] = row
            taken |= free & -free
        elif mask & ~closed:
            # Columns that could not be made free once never can be, however many rows follow.
            taken, closed = _with_row(masks, owners, taken, closed, row)
    return (owners, closed)


def _with_row(masks, owners, taken, closed, start):
    """Give a row a column by changing those of others, if that can be done; return what is taken and closed then."""
    takers = {}
    queue = [start]
    reached = closed
    at = 0
    while at < len(queue):
        row = queue[at]
        fresh = masks[row] & ~reached
        free = fresh & ~taken
        if free:
            _hand_over(owners, takers, row, free & -free)
            return (taken | (free & -free), closed)
        reached |= fresh
        while fresh:
            column = fresh & -fresh
            takers[column] = row
            queue.append(owners[column])
            fresh ^= column
        at += 1
    return (taken, reached)


def _hand_over(owners, takers, row, column):
    """Give the row the column, its former column to the taker of that one, and so on."""
    held = {owner: bit for bit, owner in owners.items()}
    while column is not None:
        owners[column] = row
        column = held.get(row)
        row = takers.get(column)
