"""Lines of fractions, and what is a sum of their multiples."""

from math import lcm

from veiledchains.fractions import lowest


class Span:
    """Lines of fractions that are kept one by one, none of them a sum of multiples of those kept ahead of it."""

    def __init__(self):
        self.rows = []

    def keep(self, line):
        """Keeps line, which is no sum of multiples of the lines that are kept."""
        rest, factors = self._rest(line)
        place = [number != 0 for number in rest].index(True)
        self.rows.append((place, rest, factors))

    def multiples(self, line):
        """The fractions by which the kept lines, multiplied, sum up to line; None if there are none."""
        rest, factors = self._rest(line)
        if any([number != 0 for number in rest]):
            return None
        return tuple([lowest(-factor, factors[-1]) for factor in factors[:-1]])

    def _rest(self, line):
        """What is left of line when kept lines are taken away, and the factors of the kept ones and of line in it."""
        common = 1
        for _, below in line:
            common = lcm(common, below)
        rest = [above * (common // below) for above, below in line]
        factors = [0 for _ in self.rows] + [common]
        last = 1
        # All numbers are minors of the lines, so that last divides them, and they grow no more than these do.
        for place, other, uses in self.rows:
            top = other[place]
            here = rest[place]
            filled = uses + [0 for _ in factors[len(uses):]]
            rest = [(top * one - here * two) // last for one, two in zip(rest, other)]
            factors = [(top * one - here * two) // last for one, two in zip(factors, filled)]
            last = top
        return (rest, factors)
