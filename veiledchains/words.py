"""When a word is told for the first time."""

from veiledchains.machines import word_machine
from veiledchains.stands import is_sure
from veiledchains.worlds import first_taken, mean_taken, taken_share


def meets(chain, word, length):
    """The share of the rows of this length in which word ends somewhere."""
    return taken_share(chain, word_machine(chain[0], word), length)


def first_ends(chain, word, length):
    """For each number of signs from 1 to length the share by which word ends behind so many for the first time."""
    return first_taken(chain, word_machine(chain[0], word), length)[1:]


def sure_word(chain, word):
    """Whether word ends some time with the share 1."""
    return is_sure(chain, word_machine(chain[0], word))


def mean_wait(chain, word):
    """The mean number of signs behind which word ends for the first time; None if it is not sure."""
    return mean_taken(chain, word_machine(chain[0], word))
