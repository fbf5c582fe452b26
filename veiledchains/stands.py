"""Pairs of a chain's state and a machine's stand, along what the chain tells for ever."""


def reached_pairs(chain, machine):
    """The pairs, none of an end, in which a sign can be told ahead of which no beginning is taken."""
    if machine[1] in machine[3]:
        return []
    found = [(state, machine[1]) for state, weight in enumerate(chain[1]) if weight > 0]
    seen = {pair: True for pair in found}
    at = 0
    while at < len(found):
        for pair in led_pairs(chain, machine, found[at]):
            if pair not in seen and pair[1] not in machine[3]:
                seen[pair] = True
                found.append(pair)
        at = at + 1
    return found


def led_pairs(chain, machine, pair):
    """To which pairs one sign and one step lead from this one: a dict of their weights, none of them 0."""
    state, stand = pair
    weights = {}
    for told, to in zip(chain[3][state], machine[2][stand]):
        for other, weight in enumerate(chain[2][state]):
            if told * weight > 0:
                weights[(other, to)] = weights.get((other, to), 0) + told * weight
    return weights


def whole_weight(chain, pair):
    """The sum of all weights that led_pairs tells of this pair."""
    return sum(chain[2][pair[0]]) * sum(chain[3][pair[0]])


def hopeful_pairs(chain, machine, pairs):
    """Those of the pairs from which a stand of ends can be come to, in their order."""
    hope = {}
    many = -1
    while many < len(hope):
        many = len(hope)
        for pair in pairs:
            if any([other in hope or other[1] in machine[3] for other in led_pairs(chain, machine, pair)]):
                hope[pair] = True
    return [pair for pair in pairs if pair in hope]


def is_sure(chain, machine):
    """Whether some beginning is taken with the share 1: whether there is hope wherever none is taken yet."""
    pairs = reached_pairs(chain, machine)
    return len(hopeful_pairs(chain, machine, pairs)) == len(pairs)
