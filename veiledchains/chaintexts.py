"""The texts of chains."""

from veiledchains.chains import chain_error
from veiledchains.errors import BadText
from veiledchains.figures import integer_text, is_natural_text


def chain_text(chain):
    """The text of this chain."""
    signs, start, steps, tells = chain
    rows = ["signs " + signs, _line_text("start", start)]
    rows.extend([_line_text("step", line) for line in steps])
    rows.extend([_line_text("tell", line) for line in tells])
    return "\n".join(rows)


def _line_text(word, line):
    return " ".join([word] + [integer_text(weight) for weight in line])


def read_chain(value):
    """The chain of which value is the text."""
    if not isinstance(value, str):
        raise BadText()
    rows = [row.partition(" ") for row in value.split("\n")]
    states = (len(rows) - 2) // 2
    if [row[0] for row in rows] != ["signs", "start"] + ["step"] * states + ["tell"] * states:
        raise BadText()
    lines = [_read_line(row[2]) for row in rows[1:]]
    chain = (rows[0][2], lines[0], tuple(lines[1:1 + states]), tuple(lines[1 + states:]))
    if chain_error(chain) is not None:
        raise BadText()
    return chain


def _read_line(text):
    """The weights in what stands behind the word of a line and a blank."""
    words = text.split(" ")
    if not all([is_natural_text(word) for word in words]):
        raise BadText()
    return tuple([int(word) for word in words])
