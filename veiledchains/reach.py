"""Which states lead to which."""


def led_to(lines):
    """The states to which some of these lines of weights lead, ascending."""
    return tuple([state for state in range(len(lines[0])) if any([line[state] > 0 for line in lines])])


def reached(steps, states):
    """These states, and all that can be come to from them, ascending."""
    found = states
    many = 0
    while many < len(found):
        many = len(found)
        found = tuple(sorted(set(found + led_to([steps[state] for state in found]))))
    return found


def coming(chain):
    """The states that come, ascending."""
    return reached(chain[2], led_to([chain[1]]))
