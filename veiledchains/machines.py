"""Machines that look at rows: quadruples (signs, begin, steps, ends)."""

from veiledchains.bounds import MAX_STANDS
from veiledchains.chains import are_signs
from veiledchains.errors import TooMany, Unfit
from veiledchains.kinds import ascends, is_whole


def machine_error(value):
    """None for a machine, otherwise what is first wrong with value."""
    if not isinstance(value, tuple) or len(value) != 4:
        return "form"
    signs, begin, steps, ends = value
    if not are_signs(signs):
        return "signs"
    if not isinstance(steps, tuple) or not 1 <= len(steps) <= MAX_STANDS:
        return "steps"
    for stand, line in enumerate(steps):
        if not _are_stands(line, len(steps)) or len(line) != len(signs):
            return ("steps", stand)
    if not _are_stands((begin,), len(steps)):
        return "begin"
    if not _are_stands(ends, len(steps)) or not ascends(ends):
        return "ends"
    return None


def _are_stands(value, many):
    if not isinstance(value, tuple):
        return False
    return all([is_whole(item) and 0 <= item < many for item in value])


def taken(machine, row):
    """Whether machine takes this row."""
    signs, stand, steps, ends = machine
    for sign in row:
        stand = steps[stand][signs.index(sign)]
    return stand in ends


def least_machine(machine):
    """The machine with a stand for each lot of like rows, in the order of the least rows in them."""
    signs, begin, steps, ends = machine
    lots = _like_lots(steps, ends)
    numbers = {lots[begin]: 0}
    found = [begin]
    lines = []
    while len(lines) < len(found):
        for stand in steps[found[len(lines)]]:
            if lots[stand] not in numbers:
                numbers[lots[stand]] = len(found)
                found.append(stand)
        lines.append(tuple([numbers[lots[stand]] for stand in steps[found[len(lines)]]]))
    return (signs, 0, tuple(lines), tuple([at for at, stand in enumerate(found) if stand in ends]))


def _like_lots(steps, ends):
    """For each stand the number of its lot: two stands are in one lot if the same rows are taken from both."""
    lots = [1 if stand in ends else 0 for stand in range(len(steps))]
    many = 0
    # Lots are parted by rows of one sign more each time, until nothing more is parted.
    while many < len(set(lots)):
        many = len(set(lots))
        numbers = {}
        marks = [(lots[stand],) + tuple([lots[to] for to in steps[stand]]) for stand in range(len(steps))]
        for mark in marks:
            numbers.setdefault(mark, len(numbers))
        lots = [numbers[mark] for mark in marks]
    return lots


def turned(machine):
    """The least machine that takes just the rows that machine does not take."""
    signs, begin, steps, ends = machine
    return least_machine((signs, begin, steps, tuple([at for at in range(len(steps)) if at not in ends])))


def both(one, other):
    """The least machine that takes just the rows that both take."""
    pairs = _pairs(one, other)
    return _least_of_pairs(one, other, [stand in one[3] and to in other[3] for stand, to in pairs])


def either(one, other):
    """The least machine that takes just the rows that one of them takes, or both."""
    pairs = _pairs(one, other)
    return _least_of_pairs(one, other, [stand in one[3] or to in other[3] for stand, to in pairs])


def _pairs(one, other):
    """The pairs of a stand of one and a stand of other."""
    if one[0] != other[0]:
        raise Unfit()
    return [(stand, to) for stand in range(len(one[2])) for to in range(len(other[2]))]


def _least_of_pairs(one, other, marks):
    """The least machine that goes along a row as both do, and takes it at the pairs of stands that are marked."""
    width = len(other[2])
    steps = [
        tuple([stand * width + to for stand, to in zip(line, beside)]) for line in one[2] for beside in other[2]
    ]
    ends = tuple([at for at, mark in enumerate(marks) if mark])
    machine = least_machine((one[0], one[1] * width + other[1], steps, ends))
    if len(machine[2]) > MAX_STANDS:
        raise TooMany(MAX_STANDS)
    return machine


def word_machine(signs, word):
    """The least machine that takes just the rows in which word stands somewhere."""
    steps = [tuple([_matched(word, word[:stand] + sign) for sign in signs]) for stand in range(len(word))]
    steps.append(tuple([len(word) for _ in signs]))
    return least_machine((signs, 0, tuple(steps), (len(word),)))


def _matched(word, row):
    """How many signs the longest end of row has that is a beginning of word."""
    many = len(word)
    while not row.endswith(word[:many]):
        many = many - 1
    return many


def alike_machines(one, other):
    """The least row that just one of both takes; None if there is none."""
    if one[0] != other[0]:
        raise Unfit()
    rows = [("", one[1], other[1])]
    seen = {(one[1], other[1]): True}
    at = 0
    while at < len(rows):
        row, stand, to = rows[at]
        if (stand in one[3]) != (to in other[3]):
            return row
        for sign, pair in zip(one[0], list(zip(one[2][stand], other[2][to]))):
            if pair not in seen:
                seen[pair] = True
                rows.append((row + sign, pair[0], pair[1]))
        at = at + 1
    return None
