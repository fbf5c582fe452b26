"""The best ways along a view, in whole numbers, for chains that are evened.

told is what told_lines of the module parts tells of the view, perhaps with noughts where nothing may pass.
"""

from veiledchains.parts import met


def best_behind(even, told):
    """For each place, by the state there: the greatest weight of a way on to the end."""
    worths = [1 for _ in even[1]]
    table = []
    for line in reversed(told):
        table.append(worths)
        passed = met(worths, line)
        worths = [max(met(passed, weights)) for weights in even[2]]
    return table[::-1]


class Ways:
    """Ways on to the end of a view, in order, each found only when it is asked for.

    A way is a pair: its weight, below 0 so that in order the pairs ascend, and the tuple of its states.
    """

    def __init__(self, found, links):
        """found has the ways that are there at once, links triples: a weight, a state, and the ways on from it."""
        self.found = found
        self.links = links
        self.fronts = []
        for at in range(len(links)):
            self._ask(at, 0)

    def numbered(self, number):
        """The way with this number, None if there are no more than so many."""
        while len(self.found) <= number and self.fronts:
            front = min(self.fronts)
            self.fronts.remove(front)
            worth, states, at, asked = front
            self.found.append((worth, states))
            self._ask(at, asked + 1)
        return self.found[number] if number < len(self.found) else None

    def _ask(self, at, number):
        weight, state, ways = self.links[at]
        way = ways.numbered(number)
        if way is not None:
            self.fronts.append((weight * way[0], (state,) + way[1], at, number))


def all_ways(even, told):
    """All possible ways along a view, in order."""
    end = Ways([(-1, ())], [])
    if not told:
        return end
    behind = [end for _ in even[1]]
    for line in reversed(told[1:]):
        behind = [Ways([], _links(met(weights, line), behind)) for weights in even[2]]
    return Ways([], _links(met(even[1], told[0]), behind))


def _links(weights, behind):
    """Those of a weight above 0: a way of the weight 0 is none."""
    return [(weight, state, behind[state]) for state, weight in enumerate(weights) if weight > 0]
