"""Linear equations in whole numbers."""

from veiledchains.fractions import lowest


def solution(rows):
    """The fractions that solve these equations, one for each unknown.

    There are as many rows as unknowns: each has a factor for each of these, and behind them their sum. There has to be
    just one solution.
    """
    done = []
    left = rows
    last = 1
    for _ in rows:
        at = [row[0] != 0 for row in left].index(True)
        first = left[at]
        # All numbers are minors of the first rows, so that last divides them, and they grow no more than these do.
        done = [_rid(row, first, last) for row in done] + [first[1:]]
        left = [_rid(row, first, last) for row in left[:at] + left[at + 1:]]
        last = first[0]
    return tuple([lowest(row[0], last) for row in done])


def _rid(row, first, last):
    """The row, rid of its first unknown by means of the row called first."""
    return [(first[0] * one - row[0] * other) // last for one, other in zip(row[1:], first[1:])]
