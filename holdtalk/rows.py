"""Rows of worlds: lists without doubles.

Rows are taken in any order; those that are told are new lists, and they rise.
"""


def in_both(one, other):
    """The worlds that both rows have."""
    return sorted(set(one) & set(other))


def in_first_only(one, other):
    """The worlds that the first row has and the other one has not."""
    return sorted(set(one) - set(other))


def in_any(rows):
    """The worlds that at least one of the rows has."""
    return sorted({world for row in rows for world in row})


def all_within(one, other):
    """Whether the other row has all worlds of the first."""
    return len(in_first_only(one, other)) == 0


def some_within(one, other):
    """Whether the other row has a world of the first."""
    return len(in_both(one, other)) > 0
