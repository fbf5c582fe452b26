"""Which states lead to which."""


def led_to(lines):
    """The states to which some of these lines of weights lead, ascending."""
    return tuple([state for state in range(len(lines[0])) if any([line[state] > 0 for line in lines])])


def reached(steps, states):
    """These states, and all that can be come to from them, ascending."""
    found = states
    many = 0
    while many < len(found):
        many = len(found)
        found = tuple(sorted(set(found + led_to([steps[state] for state in found]))))
    return found


def coming(chain):
    """The states that come, ascending."""
    return reached(chain[2], led_to([chain[1]]))


def home_lots(chain):
    """The states of each home, ascending, and so the homes."""
    steps = chain[2]
    lots = []
    for state in coming(chain):
        lot = reached(steps, led_to([steps[state]]))
        if lot not in lots and all([state in reached(steps, led_to([steps[other]])) for other in lot]):
            lots.append(lot)
    return lots
