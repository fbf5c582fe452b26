"""Rows of one length in order, and the least row that never comes."""

from veiledchains.errors import Unfit
from veiledchains.evened import evened
from veiledchains.fractions import lowest
from veiledchains.parts import gone_on, met, told_lines, whole
from veiledchains.reach import led_to


def rows_ahead(chain, row):
    """The chances of all rows of this length that stand ahead of row, together."""
    even = evened(chain)
    parts = even[1]
    ahead = 0
    for place, sign in enumerate(row):
        if place > 0:
            parts = gone_on(parts, even[2])
            ahead = ahead * sum(even[2][0])
        ahead = ahead * sum(even[3][0])
        for lesser in even[0][:even[0].index(sign)]:
            ahead = ahead + sum(_told(even, parts, lesser))
        parts = _told(even, parts, sign)
    return lowest(ahead, whole(even, row))


def _told(even, parts, sign):
    return met(parts, told_lines(even, sign)[0])


def row_at(chain, length, share):
    """The row of this length on which share falls, if the rows part what is from 0 to 1 among them in order."""
    if not 0 <= share[0] < share[1]:
        raise Unfit()
    even = evened(chain)
    parts = even[1]
    # left is what the share has above all rows ahead, in parts, times its denominator.
    left = share[0] * sum(parts)
    row = ""
    for place in range(length):
        if place > 0:
            parts = gone_on(parts, even[2])
            left = left * sum(even[2][0])
        left = left * sum(even[3][0])
        sign, parts, left = _sign_at(even, parts, left, share[1])
        row = row + sign
    return row


def _sign_at(even, parts, left, below):
    """The sign on which left / below falls, the parts behind it, and left less those of the signs ahead."""
    at = 0
    told = _told(even, parts, even[0][0])
    while left >= sum(told) * below:
        left = left - sum(told) * below
        at = at + 1
        told = _told(even, parts, even[0][at])
    return (even[0][at], told, left)


def never_row(chain):
    """The least string of signs whose chance is 0; None if there is none."""
    signs, start, steps, tells = chain
    # What can still come hangs on the states alone where the chain can be: the least row to each such lot is enough.
    rows = [("", led_to([start]))]
    seen = {rows[0][1]: True}
    at = 0
    while at < len(rows):
        row, states = rows[at]
        for place, sign in enumerate(signs):
            tellers = [state for state in states if tells[state][place] > 0]
            if not tellers:
                return row + sign
            lot = led_to([steps[state] for state in tellers])
            if lot not in seen:
                seen[lot] = True
                rows.append((row + sign, lot))
        at = at + 1
    return None
