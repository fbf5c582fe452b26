"""Shells: a desk that is told lines, and answers in lines."""

from veiledchains.alike import alike
from veiledchains.bounds import MAX_ROW, MAX_TEST, MAX_WORD
from veiledchains.chaintexts import chain_text, read_chain
from veiledchains.desks import Desk
from veiledchains.errors import BadText, Never, NoRank, NothingToUndo, TooMany, Unfit
from veiledchains.figures import is_great
from veiledchains.fractions import fraction_text
from veiledchains.lines import read_line
from veiledchains.longrun import homes, long_shares
from veiledchains.lumps import coarsest
from veiledchains.odds import apart_by, told_by
from veiledchains.words import mean_wait, meets


def _chain_meant(text):
    """The chain of which text is the text, with ";" in the place of line feeds."""
    if "\n" in text:
        raise BadText()
    return read_chain(text.replace(";", "\n"))


def _version_told(version):
    return f"version {version}"


def _fraction_told(fraction):
    if is_great(fraction[0]) or is_great(fraction[1]):
        return "great"
    return fraction_text(fraction)


def _fractions_told(fractions):
    return " ".join([_fraction_told(fraction) for fraction in fractions])


def _states_told(states):
    return "-" if len(states) == 0 else ",".join([str(state) for state in states])


def _course_told(found):
    """The states of a course and its chance."""
    return _states_told(found[0]) + " " + _fraction_told(found[1])


def _put(desk, view):
    return _version_told(desk.put(view))


def _take(desk, text):
    return _version_told(desk.take(_chain_meant(text)))


def _learn(desk, heap):
    return _version_told(desk.learn(heap))


def _forget(desk):
    return _version_told(desk.forget())


def _undo(desk):
    return _version_told(desk.undo())


def _view(desk):
    return "-" if desk.view == "" else desk.view


def _show(desk):
    return chain_text(desk.chain).replace("\n", ";")


def _chance(desk):
    return _fraction_told(desk.chance())


def _states(desk):
    return _fractions_told(desk.states())


def _coming(desk):
    return _fractions_told(desk.coming())


def _best(desk):
    return _course_told(desk.best())


def _rank(desk, number):
    return _course_told(desk.ranked(number))


def _alike(desk, text):
    row = alike(desk.chain, _chain_meant(text))
    return "alike" if row is None else "parts " + row


def _odds(desk, first, second, text):
    other = _chain_meant(text)
    if first < 0 or second < 0 or first + second == 0:
        raise Unfit()
    return _fraction_told(told_by(desk.chain, other, first, second, desk.view))


def _apart(desk, length, text):
    other = _chain_meant(text)
    if not 0 <= length <= MAX_TEST:
        raise Unfit()
    return _fraction_told(apart_by(desk.chain, other, length))


def _homes(desk):
    return " ".join([_states_told(states) + ":" + str(pulse) for states, pulse in homes(desk.chain)])


def _long(desk):
    return _fractions_told(long_shares(desk.chain))


def _lumps(desk):
    return " ".join([_states_told(part) for part in coarsest(desk.chain)])


def _check_word(desk, word):
    if len(word) > MAX_WORD or not all([sign in desk.chain[0] for sign in word]):
        raise Unfit()


def _meets(desk, word, length):
    _check_word(desk, word)
    if not 0 <= length <= MAX_ROW:
        raise Unfit()
    return _fraction_told(meets(desk.chain, word, length))


def _wait(desk, word):
    _check_word(desk, word)
    mean = mean_wait(desk.chain, word)
    return "never" if mean is None else _fraction_told(mean)


ANSWERS = {
    "put": _put,
    "take": _take,
    "learn": _learn,
    "forget": _forget,
    "undo": _undo,
    "view": _view,
    "show": _show,
    "chance": _chance,
    "states": _states,
    "coming": _coming,
    "best": _best,
    "rank": _rank,
    "alike": _alike,
    "odds": _odds,
    "apart": _apart,
    "homes": _homes,
    "long": _long,
    "lumps": _lumps,
    "meets": _meets,
    "wait": _wait,
}


class Shell:
    """A desk, or none yet, that is told lines."""

    def __init__(self):
        self._desk = None

    def say(self, line):
        """The answer to this line."""
        read = read_line(line)
        if read is None:
            return "what"
        if self._desk is None and read[0] != "chain":
            return "no desk"
        try:
            return self._answer(read[0], read[1])
        except BadText:
            return "error BadText"
        except Unfit:
            return "error Unfit"
        except Never:
            return "error Never"
        except NoRank:
            return "error NoRank"
        except TooMany:
            return "error TooMany"
        except NothingToUndo:
            return "error NothingToUndo"

    def _answer(self, word, told):
        if word == "chain":
            self._desk = Desk(_chain_meant(told[0]))
            return _version_told(self._desk.version)
        action = ANSWERS[word]
        return action(self._desk, *told)
