"""Two chains, and what one row says of which of them told it."""

from veiledchains.courses import chance
from veiledchains.errors import Never, Unfit
from veiledchains.evened import evened, multiplied_line
from veiledchains.fractions import lowest, multiplied, subtracted
from veiledchains.parts import gone_on, met


def _check_signs(one, other):
    if one[0] != other[0]:
        raise Unfit()


def told_by(one, other, first, second, view):
    """The share by which it is one that told view, thought of ahead as first to second."""
    _check_signs(one, other)
    mine = multiplied((first, 1), chance(one, view))
    yours = multiplied((second, 1), chance(other, view))
    total = mine[0] * yours[1] + yours[0] * mine[1]
    if total == 0:
        raise Never()
    return lowest(mine[0] * yours[1], total)


def test_error(one, length, value):
    """None if value is a test of this length, otherwise what is first wrong with it."""
    if not isinstance(value, tuple):
        return "form"
    for spot, item in enumerate(value):
        if not _is_row(one[0], length, item):
            return ("row", spot)
    for spot in range(1, len(value)):
        if value[spot] <= value[spot - 1]:
            return ("order", spot)
    return None


def _is_row(signs, length, value):
    return isinstance(value, str) and len(value) == length and all([sign in signs for sign in value])


def _rows(signs, length):
    """All rows of this length, ascending."""
    rows = [""]
    for _ in range(length):
        rows = [row + sign for row in rows for sign in signs]
    return rows


def _parts_by_row(chain, length):
    """For each row of this length, ascending, its chance in parts of their sum: together they have the chance 1."""
    even = evened(chain)
    return _told_parts(even, even[1], length)


def _told_parts(even, parts, length):
    """For each row of this length the sum over all courses that are begun with these parts."""
    if length == 0:
        return [sum(parts)]
    tells = even[3]
    sums = []
    for line in zip(*tells):
        told = met(parts, line)
        if length > 1:
            told = gone_on(told, even[2])
        sums.extend(_told_parts(even, told, length - 1))
    return sums


def slips(one, other, test, length):
    """How often one is wrong by this test: where one told the row, and where other did."""
    _check_signs(one, other)
    return (subtracted((1, 1), _share_of(one, test, length)), _share_of(other, test, length))


def _share_of(chain, test, length):
    """The chances of all rows of test together."""
    parts = _parts_by_row(chain, length)
    chosen = {row: True for row in test}
    return lowest(sum([part for row, part in zip(_rows(chain[0], length), parts) if row in chosen]), sum(parts))


def _weighed(one, other, first, second, length):
    """For each row first times its chance by one, second times that by other, and the whole of first and second."""
    _check_signs(one, other)
    ones = _parts_by_row(one, length)
    others = _parts_by_row(other, length)
    mine = multiplied_line(ones, first * sum(others))
    yours = multiplied_line(others, second * sum(ones))
    return (mine, yours, (first + second) * sum(ones) * sum(others))


def best_test(one, other, first, second, length):
    """The test of the rows that are likelier from one: none of this length has a lesser weighted slip."""
    mine, yours, _ = _weighed(one, other, first, second, length)
    return tuple([row for row, left, right in zip(_rows(one[0], length), mine, yours) if left > right])


def least_slip(one, other, first, second, length):
    """The weighted slip of the best test."""
    mine, yours, total = _weighed(one, other, first, second, length)
    return lowest(sum([min(left, right) for left, right in zip(mine, yours)]), total)


def apart_by(one, other, length):
    """Half of what the chances of all rows of this length differ by."""
    mine, yours, total = _weighed(one, other, 1, 1, length)
    return lowest(sum([abs(left - right) for left, right in zip(mine, yours)]), total)


def sharpest(one, other, length, most):
    """The bar, the part at the bar, and the power of the best drawn test whose false share is at most most."""
    _check_signs(one, other)
    ones = _parts_by_row(one, length)
    others = _parts_by_row(other, length)
    power = sum([left for left, right in zip(ones, others) if right == 0])
    # room is what is left of most, in parts of its denominator, too, so that it stays a whole number.
    room = most[0] * sum(others)
    lots = _lots_by_odds(ones, others)
    at = 0
    while at + 1 < len(lots) and lots[at][1] * most[1] <= room:
        power = power + lots[at][0]
        room = room - lots[at][1] * most[1]
        at = at + 1
    above, below = lots[at]
    bar = lowest(above * sum(others), below * sum(ones))
    part = lowest(room, below * most[1])
    return (bar, part, lowest(power * part[1] + above * part[0], sum(ones) * part[1]))


def _lots_by_odds(ones, others):
    """The sums of ones and of others in each lot of rows with the same odds, the greatest odds first."""
    # Unlike odds differ by 1 at least, multiplied by this scale: so their whole parts tell them apart, and order them.
    scale = max(others) * max(others)
    lots = {}
    for left, right in zip(ones, others):
        if right > 0:
            odds = left * scale // right
            above, below = lots.get(odds, (0, 0))
            lots[odds] = (above + left, below + right)
    return [lots[odds] for odds in sorted(lots, reverse=True)]
