"""The lines that a shell is told, and what stands in them."""

from veiledchains.figures import is_integer_text

MOST_FIGURES = 30

# What stands behind each word, a letter for each: T a text, V a view, W a word, I an integer, H views with times.
FORMS = {
    "chain": "T",
    "put": "V",
    "take": "T",
    "learn": "H",
    "forget": "",
    "undo": "",
    "view": "",
    "show": "",
    "chance": "",
    "states": "",
    "coming": "",
    "best": "",
    "rank": "I",
    "alike": "T",
    "odds": "IIT",
    "apart": "IT",
    "homes": "",
    "long": "",
    "lumps": "",
    "meets": "WI",
    "wait": "W",
}


def read_line(value):
    """The pair of the word of this line and the list of what stands behind it; None if it is no line."""
    if not isinstance(value, str):
        return None
    word, blank, rest = value.partition(" ")
    if word not in FORMS or (blank == "") != (FORMS[word] == ""):
        return None
    pieces = _pieces(FORMS[word], rest)
    if len(pieces) != len(FORMS[word]):
        return None
    if not all([_is_told(letter, piece) for letter, piece in zip(FORMS[word], pieces)]):
        return None
    return (word, [_meant(letter, piece) for letter, piece in zip(FORMS[word], pieces)])


def _pieces(form, rest):
    """The pieces of rest, parted at blanks: the last one, which may have more of them, is all that is left."""
    if form == "":
        return []
    return rest.split(" ", len(form) - 1)


def _is_told(letter, piece):
    if letter == "I":
        return _is_integer(piece)
    if letter == "H":
        return all([_is_seen(part.split(" ")) for part in piece.split(", ")])
    return letter == "T" or _is_word(piece)


def _is_integer(piece):
    return is_integer_text(piece) and len(piece.removeprefix("-")) <= MOST_FIGURES


def _is_seen(pieces):
    """Whether these are a view and its times."""
    return len(pieces) == 2 and _is_word(pieces[0]) and _is_integer(pieces[1])


def _is_word(piece):
    """Whether piece has at least one sign, all of them printable and of ASCII, and none of them a blank or a comma."""
    return piece != "" and all(["!" <= sign <= "~" and sign != "," for sign in piece])


def _meant(letter, piece):
    if letter == "I":
        return int(piece)
    if letter == "V":
        return _view_meant(piece)
    if letter == "H":
        return tuple([_seen_meant(part.split(" ")) for part in piece.split(", ")])
    return piece


def _view_meant(piece):
    return "" if piece == "-" else piece


def _seen_meant(pieces):
    return (_view_meant(pieces[0]), int(pieces[1]))
