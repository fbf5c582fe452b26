"""Chains that tell alike, and accounts of it."""

from veiledchains.bounds import MAX_ROW
from veiledchains.courses import chance
from veiledchains.errors import Unfit
from veiledchains.evened import evened
from veiledchains.fractions import added, lowest, multiplied
from veiledchains.kinds import is_fraction
from veiledchains.parts import gone_on, met, told_lines
from veiledchains.spans import Span

MOST_WORDS = 16


def onward(chain, row):
    """By state: the share by which chain tells row and goes on to this state."""
    even = evened(chain)
    parts = even[1]
    below = sum(parts)
    for line in told_lines(even, row):
        parts = gone_on(met(parts, line), even[2])
        below = below * sum(even[3][0]) * sum(even[2][0])
    return tuple([lowest(part, below) for part in parts])


def _double_line(one, other, row):
    return onward(one, row) + onward(other, row)


def _check_signs(one, other):
    if one[0] != other[0]:
        raise Unfit()


def alike(one, other):
    """None if all rows have the same chance in one and in other, otherwise the first one that has not."""
    _check_signs(one, other)
    for word in kept_words(one, other):
        if chance(one, word) != chance(other, word):
            return word
    return None


def kept_words(one, other):
    """The rows whose double line is no sum of multiples of those of rows kept ahead."""
    return account(one, other)[0]


def account(one, other):
    """The kept words, and by word and sign the multiples that make the line of the word with the sign behind it."""
    _check_signs(one, other)
    words = [""]
    span = Span()
    span.keep(_double_line(one, other, ""))
    sums = []
    while len(sums) < len(words):
        word = words[len(sums)]
        made = []
        for sign in one[0]:
            line = _double_line(one, other, word + sign)
            factors = span.multiples(line)
            if factors is None:
                span.keep(line)
                factors = _noughts(len(words)) + ((1, 1),)
                words.append(word + sign)
            made.append(factors)
        sums.append(made)
    return (tuple(words), tuple([tuple([_filled(factors, len(words)) for factors in made]) for made in sums]))


def _filled(factors, many):
    """The factors, with noughts for the words that were kept later."""
    return factors + _noughts(many - len(factors))


def _noughts(many):
    return ((0, 1),) * many


def account_error(one, other, value):
    """None if value is an account of one and other, otherwise what is first wrong with it."""
    _check_signs(one, other)
    if not _has_form(one[0], value):
        return "form"
    words, sums = value
    lines = [_double_line(one, other, word) for word in words]
    for place, word in enumerate(words):
        for sign, factors in zip(one[0], sums[place]):
            if _summed(lines, factors) != _double_line(one, other, word + sign):
                return (place, sign)
    return None


def _has_form(signs, value):
    """Whether value is a pair of fit words and of as many fractions as are asked for."""
    if not isinstance(value, tuple) or len(value) != 2 or not _are_words(signs, value[0]):
        return False
    words, sums = value
    if not _is_tuple_of(sums, len(words)):
        return False
    if not all([_is_tuple_of(part, len(signs)) for part in sums]):
        return False
    lines = [line for part in sums for line in part]
    return all([_is_tuple_of(line, len(words)) and all([is_fraction(item) for item in line]) for line in lines])


def _is_tuple_of(value, many):
    return isinstance(value, tuple) and len(value) == many


def _are_words(signs, value):
    """Whether value is a tuple of 1 to MOST_WORDS unlike rows, the first one empty."""
    if not isinstance(value, tuple) or not 1 <= len(value) <= MOST_WORDS:
        return False
    if not all([_is_row(signs, item) for item in value]):
        return False
    return value[0] == "" and len(set(value)) == len(value)


def _is_row(signs, value):
    return isinstance(value, str) and len(value) <= MAX_ROW and all([sign in signs for sign in value])


def _summed(lines, factors):
    """The sum of these lines, each multiplied by its factor."""
    total = [(0, 1) for _ in lines[0]]
    for line, factor in zip(lines, factors):
        total = [added(one, multiplied(item, factor)) for one, item in zip(total, line)]
    return tuple(total)


def alike_by(one, other, value):
    """Whether this account says that all rows have the same chance in one and in other."""
    if account_error(one, other, value) is not None:
        raise Unfit()
    return all([chance(one, word) == chance(other, word) for word in value[0]])
