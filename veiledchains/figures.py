"""Integers written in decimal."""

from veiledchains.bounds import MAX_FIGURES


def integer_text(number):
    """The decimal text of any integer."""
    if number < 0:
        return "-" + integer_text(-number)
    # By blocks, since str refuses integers of some thousand figures.
    block = 10 ** 64
    blocks = []
    while number >= block:
        number, low = divmod(number, block)
        blocks.append(str(low).zfill(64))
    blocks.append(str(number))
    return "".join(blocks[::-1])


def is_great(number):
    """Whether this integer has more than MAX_FIGURES figures."""
    bound = 1
    for _ in range(MAX_FIGURES):
        bound = bound * 10
    return abs(number) >= bound


def is_natural_text(text):
    """Whether this string is the text of an integer from 0 on, of at most MAX_FIGURES figures."""
    if not text.isascii() or not text.isdigit() or len(text) > MAX_FIGURES:
        return False
    return text == "0" or text[0] != "0"


def is_integer_text(text):
    """Whether this string is the text of an integer of at most MAX_FIGURES figures."""
    if text.startswith("-"):
        return text != "-0" and is_natural_text(text[1:])
    return is_natural_text(text)
