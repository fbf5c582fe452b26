import itertools
import random
import re

from helpers import VALUES, Calls, shown
from samples import (
    CIRCLE, EVEN, FAIR, FORK, GREAT, HOP, ONE, PARTING, RING, SIX, STILL, TWIN, WORN, multiplied, ratio, small_chains,
    some_chain, some_chains, some_view, with_idle_state,
)

from veiledchains.alike import alike
from veiledchains.chaintexts import chain_text
from veiledchains.desks import Desk
from veiledchains.errors import ChainError
from veiledchains.longrun import homes, long_shares
from veiledchains.lumps import coarsest
from veiledchains.odds import apart_by, told_by
from veiledchains.shells import Shell
from veiledchains.words import mean_wait, meets

TEXT = "signs ab;start 1 1;step 1 1;step 0 1;tell 1 0;tell 1 3"
FLAT_TEXT = "signs ab;start 1;step 1;tell 5 3"
AC_TEXT = "signs ac;start 1;step 1;tell 5 3"
FLAT = ("ab", (1,), ((1,),), ((5, 3),))
# One line of each form that is told.
LINES = [
    "put a", "put -", "put ab.", "put xyz", "take " + FLAT_TEXT, "take junk", "take ", "learn a 1", "learn a 1, b 2", "learn - 1",
    "learn x 99", "forget", "undo", "view", "show", "chance", "states", "coming", "best", "rank 0", "rank -1", "rank 999",
    "alike " + FLAT_TEXT, "alike junk", "alike ", "odds 1 2 " + FLAT_TEXT, "odds -1 0 junk", "odds 1 2 ", "apart 1 " + FLAT_TEXT,
    "apart 99 junk", "apart -1 ", "homes", "long", "lumps", "meets a 3", "meets xyz -5", "wait b", "wait -", "wait abababab",
]
# What is no line, whether there is a desk or not.
NO_LINES = [
    "", " ", "hush", "Chance", "chance ", " chance", "chance\n", "\nchance", "chance chance", "chance 1", "chances", "chanc",
    "forget ", "forget a", "undo ", "undo 1", "view ", "show ", "states ", "coming ", "best ", "best 0", "homes ", "long ", "lumps ",
    "chain", "take", "alike", "put", "put ", "put  a", "put a ", "put a b", "put a,b", "put ,", "put \n", "put a\n", "put a\tb",
    "Put a", "put\ta", "put\na", "rank", "rank ", "rank  1", "rank 1 ", "rank x", "rank 01", "rank 00", "rank -0", "rank -01", "rank +1",
    "rank 1.0", "rank 1,0", "rank 1_0", "rank -", "rank --1", "rank 1\n", "rank " + "1" * 31, "rank -" + "1" * 31, "rank 1 2",
    "rank 0x1", "rank 1e3", "rank \u0661", "rank \u00b2", "put \u00e4", "put a\u00a0", "learn", "learn ", "learn a", "learn a ", "learn a x",
    "learn a 1,", "learn a 1, ", "learn a 1,b 1", "learn a 1 , b 1", "learn a 1,  b 1", "learn  a 1", "learn a  1", "learn a 1 ",
    "learn , a 1", "learn a 1, , b 1", "learn a 01", "learn a -0", "learn a +1", "learn a,b 1", "learn a 1 b 1", "learn a 1, b", "learn 1",
    "learn a 1;b 1", "learn a " + "9" * 31, "learn a 1,\nb 1", "learn a 1\n", "odds", "odds ", "odds 1", "odds 1 2", "odds 1 x " + FLAT_TEXT,
    "odds x 1 " + FLAT_TEXT, "odds  1 2 " + FLAT_TEXT, "odds 1  2 " + FLAT_TEXT, "odds 1 " + FLAT_TEXT, "odds 01 2 " + FLAT_TEXT,
    "odds 1 -0 " + FLAT_TEXT, "odds 1, 2 " + FLAT_TEXT, "odds +1 2 " + FLAT_TEXT, "odds 1 " + "1" * 31 + " " + FLAT_TEXT,
    "apart", "apart ", "apart 1", "apart x " + FLAT_TEXT, "apart  1 " + FLAT_TEXT, "apart 01 " + FLAT_TEXT, "apart " + FLAT_TEXT,
    "apart -0 " + FLAT_TEXT, "meets", "meets ", "meets a", "meets a ", "meets a x", "meets 1", "meets a 1 ", "meets  a 1", "meets a  1",
    "meets a 01", "meets a -0", "meets a 1 2", "meets a,b 1", "meets a " + "1" * 31, "wait", "wait ", "wait  a", "wait a ", "wait a b",
    "wait a,", "wait \n", "wait a\n", "chain\n" + TEXT, "chain;" + TEXT, "Chain " + TEXT, TEXT, "what", "no desk", "error Unfit", "quit",
    "version", "log", "copy", "say", "version 0", "learned a 1", "__init__", "desk", "chaintake a",
]


def text_of(chain):
    return chain_text(chain).replace("\n", ";")


def told(share):
    """The text of a fraction, as Python writes it."""
    return str(ratio(share)) if max(map(abs, share)) < 10 ** 400 else "great"


def all_told(shares):
    return " ".join(map(told, shares))


def states_told(states):
    return ",".join(map(str, states)) or "-"


def course_told(found):
    return states_told(found[0]) + " " + told(found[1])


def error_of(call):
    """The answer that is asked for: what call tells, or the name of its error."""
    try:
        return call()
    except ChainError as error:
        return "error " + type(error).__name__


class Shells(Calls):
    def says(self, shell, line, wanted):
        answer = shell.say(line)
        self.assertIs(type(answer), str)
        if answer != wanted:
            self.fail(f"{shown(line)}: {shown(answer)}, not {shown(wanted)}")

    def shell(self, chain, view=""):
        shell = Shell()
        self.says(shell, "chain " + text_of(chain), "version 0")
        if view:
            self.says(shell, "put " + view, "version 1")
        return shell

    def stand(self, shell):
        return [shell.say(line) for line in ("show", "view", "rank 0", "states")]


class Examples(Shells):
    def test_examples(self):
        shell = Shell()
        for line, wanted in (
            ("chance", "no desk"), ("chain " + TEXT, "version 0"), ("put ab", "version 1"), ("chance", "9/32"), ("best", "0,1 3/16"),
            ("rank 1", "1,1 3/32"), ("rank 2", "error NoRank"), ("states", "0 1"), ("coming", "1/4 3/4"), ("undo", "version 0"),
            ("undo", "error NothingToUndo"), ("view", "-"), ("best", "- 1"), ("learn a 1, b 1", "version 1"),
            ("show", "signs ab;start 2 3;step 1 1;step 0 1;tell 1 0;tell 1 5"), ("long", "0 1"), ("homes", "1:1"), ("lumps", "0 1"),
            ("meets b 2", "3/4"), ("wait b", "2"), ("alike " + FLAT_TEXT, "parts a"),
            ("alike signs ab;start 2 3;step 1 1;step 0 1;tell 1 0;tell 1 5", "alike"), ("odds 1 3 " + FLAT_TEXT, "1/4"),
            ("apart 1 " + FLAT_TEXT, "1/8"), ("odds 0 0 " + FLAT_TEXT, "error Unfit"), ("wait abc", "error Unfit"),
            ("chain junk", "error BadText"), ("put -", "error Unfit"), ("rank x", "what"), ("learn a", "what"), ("hush", "what"), (7, "what"),
        ):
            self.says(shell, line, wanted)

    def test_by_name(self):
        shell = Shell()
        self.assertEqual(shell.say(line="chain " + TEXT), "version 0")
        self.assertEqual(shell.say(line="chance"), "1")
        self.assertEqual(shell.say(line=None), "what")


class Lines(Shells):
    def test_no_desk_ahead_of_all_errors(self):
        for line in LINES:
            shell = Shell()
            self.says(shell, line, "no desk")
            self.says(shell, line, "no desk")
            # A chain that is none makes no desk.
            self.says(shell, "chain junk", "error BadText")
            self.says(shell, line, "no desk")

    def test_what(self):
        bare, shell = Shell(), self.shell(WORN, "ab")
        before = self.stand(shell)
        for line in NO_LINES:
            self.says(bare, line, "what")
            self.says(shell, line, "what")
        self.assertEqual(self.stand(shell), before)
        self.says(bare, "chance", "no desk")

    def test_with_a_desk_they_are_lines(self):
        for line in LINES:
            answer = self.shell(WORN, "a").say(line)
            self.assertNotIn(answer, ("what", "no desk"), line)

    def test_what_is_no_string(self):
        bare, shell = Shell(), self.shell(WORN, "ab")
        before = self.stand(shell)
        for value in VALUES + [b"chance", ["chance"], ("chance",), ("put", "a"), Shell(), Desk(WORN), Shell, 7]:
            if value != "":
                self.says(bare, value, "what")
                self.says(shell, value, "what")
        self.assertEqual(self.stand(shell), before)

    def test_integers_of_thirty_figures(self):
        shell = self.shell(WORN, "ab")
        for figures in ("1" * 30, "9" * 30, "-" + "9" * 30, "0", "-1", "1" + "0" * 29):
            self.says(shell, "rank " + figures, "0,1 3/16" if figures == "0" else "error NoRank")
        self.says(shell, "odds " + "9" * 30 + " 1 " + TEXT, told((int("9" * 30), 10 ** 30)))
        self.says(shell, "odds 0 " + "9" * 30 + " " + TEXT, "0")
        for line in ("meets a " + "9" * 30, "meets a -" + "9" * 30, "apart " + "9" * 30 + " " + TEXT, "learn a " + "9" * 30):
            self.says(shell, line, "error Unfit")

    def test_each_sign_of_a_view_and_of_a_word(self):
        for number in range(0, 300):
            sign = chr(number)
            fits = "!" <= sign <= "~" and sign != ","
            shell = self.shell(WORN)
            wanted = "version 1" if sign in "ab." else "error Unfit" if fits else "what"
            self.says(shell, "put " + sign, wanted)
            self.says(self.shell(WORN), "put a" + sign, wanted)
            self.says(self.shell(WORN), "learn a" + sign + " 1", wanted)
            wanted = "no desk" if fits else "what"
            self.says(Shell(), "wait " + sign, wanted)
            self.says(Shell(), "meets a" + sign + " 1", wanted)
            if not fits:
                self.says(shell, "wait a" + sign, "what")
            elif sign not in "ab":
                self.says(shell, "wait a" + sign, "error Unfit")

    def test_a_minus_alone_is_the_empty_view(self):
        shell = self.shell(WORN)
        self.says(shell, "put -", "error Unfit")
        self.says(shell, "put --", "error Unfit")
        self.says(shell, "put a-", "error Unfit")
        self.says(shell, "learn - 20", "version 1")
        self.says(shell, "learn - 20, a 1, - 1", "version 2")
        self.says(shell, "learn -- 1", "error Unfit")
        self.says(shell, "wait -", "error Unfit")
        self.says(shell, "meets - 3", "error Unfit")


class Answers(Shells):
    def check(self, chain, view=""):
        """Each answer beside the desk's, or beside the def on which it rests."""
        shell, desk = self.shell(chain, view), Desk(chain)
        if view:
            desk.put(view)
        self.says(shell, "show", text_of(chain))
        self.says(shell, "view", view or "-")
        self.says(shell, "chance", told(desk.chance()))
        self.says(shell, "states", error_of(lambda: all_told(desk.states())))
        self.says(shell, "coming", error_of(lambda: all_told(desk.coming())))
        self.says(shell, "best", error_of(lambda: course_told(desk.best())))
        for number in (0, 1, 2, 199, 200, -1):
            self.says(shell, f"rank {number}", error_of(lambda: course_told(desk.ranked(number))))
        self.says(shell, "homes", " ".join(states_told(states) + ":" + str(pulse) for states, pulse in homes(chain)))
        self.says(shell, "long", all_told(long_shares(chain)))
        self.says(shell, "lumps", " ".join(map(states_told, coarsest(chain))))
        for word in (chain[0][0], chain[0][-1] * 2):
            mean = mean_wait(chain, word)
            self.says(shell, "wait " + word, "never" if mean is None else told(mean))
            for length in (0, 1, 5):
                self.says(shell, f"meets {word} {length}", told(meets(chain, word, length)))
        return shell, desk

    def test_chains_and_views(self):
        source = random.Random(211)
        answers = set()
        for chain in small_chains() + [CIRCLE, FORK, PARTING, multiplied(WORN)] + some_chains()[::6]:
            for length in (0, 1, 3):
                shell, _ = self.check(chain, some_view(source, chain, length, 2))
                answers |= {shell.say("states"), shell.say("rank 2"), shell.say("wait " + chain[0][0])}
        self.assertLessEqual({"error Never", "error NoRank", "never"}, answers)

    def test_forty_signs(self):
        source = random.Random(212)
        for chain in (WORN, FAIR, TWIN, SIX):
            self.check(chain, some_view(source, chain, 40, 1))

    def test_two_chains(self):
        source = random.Random(213)
        chains = [WORN, FLAT, FAIR, RING, TWIN, EVEN, STILL, HOP, multiplied(WORN), with_idle_state(WORN), ONE]
        found = set()
        for one, other in itertools.product(chains, repeat=2):
            view = some_view(source, one, 2)
            shell = self.shell(one, view)

            def row():
                parting = alike(one, other)
                return "alike" if parting is None else "parts " + parting

            found.add(error_of(row))
            self.says(shell, "alike " + text_of(other), error_of(row))
            for first, second in ((1, 1), (0, 3), (7, 0), (10 ** 29, 3)):
                wanted = error_of(lambda: told(told_by(one, other, first, second, view)))
                self.says(shell, f"odds {first} {second} " + text_of(other), wanted)
            for length in (0, 2, 5):
                self.says(shell, f"apart {length} " + text_of(other), error_of(lambda: told(apart_by(one, other, length))))
        self.assertLessEqual({"alike", "parts a", "parts aa", "error Unfit"}, found)

    def test_homes_and_lumps_with_more_states(self):
        self.says(self.shell(CIRCLE), "homes", "0,1:2")
        self.says(self.shell(FORK), "homes", "1:1 2:1")
        self.says(self.shell(TWIN), "lumps", "0 1,2")
        self.says(self.shell(EVEN), "lumps", "0,1")
        self.says(self.shell(FORK), "long", "0 1/3 2/3")
        self.says(self.shell(ONE), "homes", "0:1")

    def test_great(self):
        nines = 10 ** 400 - 1
        for weight, wanted in ((nines - 1, "1/" + "9" * 400), (nines, "great")):
            shell = self.shell(("ab", (1,), ((1,),), ((1, weight),)), "a")
            self.says(shell, "chance", wanted)
            self.says(shell, "best", "0 " + wanted)
            self.says(shell, "rank 0", "0 " + wanted)
            self.says(shell, "meets a 1", wanted)
            # The numerator alone is great there.
            self.says(shell, "wait a", "9" * 400 if weight < nines else "great")
            self.says(shell, "odds 0 1 signs ab;start 1;step 1;tell 1 1", "0")
        # Each fraction by itself.
        shell = self.shell(("abc", (1,), ((1,),), ((nines, 1, nines),)))
        self.says(shell, "coming", "great great great")
        shell = self.shell(("ab", (1, 1, 0), ((1, 1, 0), (0, 1, 0), (1, 0, nines)), ((1, 0), (1, 1), (0, 1))), "a")
        self.says(shell, "states", "2/3 1/3 0")
        shell = self.shell(("ab", (nines, 1, 0), ((0, 0, 1), (0, 1, 0), (0, 0, 1)), ((1, 1), (1, 1), (1, 0))))
        self.says(shell, "states", "great great 0")
        self.says(shell, "long", "0 great great")
        self.says(shell, "chance", "1")
        self.says(shell, "best", "- 1")
        shell = self.shell(("ab", (nines - 1, 1), ((1, 0), (0, 1)), ((1, 1), (1, 1))))
        self.says(shell, "states", "9" * 399 + "8/" + "9" * 400 + " 1/" + "9" * 400)
        other = text_of(("ab", (1,), ((1,),), ((nines, 1),)))
        self.says(self.shell(FLAT), "apart 1 " + other, "great")
        self.says(self.shell(FLAT, "a"), "odds 1 1 " + other, "great")

    def test_great_weights(self):
        source = random.Random(214)
        for states in (1, 2, 3):
            chain = some_chain(source, states, 2, 400)
            self.check(chain, chain[0])


class Edits(Shells):
    def test_versions(self):
        shell, desk = self.shell(WORN), Desk(WORN)
        for line, edit in (
            ("put a", lambda: desk.put("a")), ("put b.", lambda: desk.put("b.")), ("take " + text_of(FAIR), lambda: desk.take(FAIR)),
            ("learn ab 2, . 1", lambda: desk.learn((("ab", 2), (".", 1)))), ("forget", desk.forget), ("put " + "." * 40, lambda: desk.put("." * 40)),
            ("undo", desk.undo), ("put bb", lambda: desk.put("bb")), ("learn - 3, bab 4, a 1", lambda: desk.learn((("", 3), ("bab", 4), ("a", 1)))),
            ("put x", lambda: desk.put("x")), ("put " + "a" * 39, lambda: desk.put("a" * 39)), ("learn c 1", lambda: desk.learn((("c", 1),))),
            ("learn a 0", lambda: desk.learn((("a", 0),))), ("learn a 21", lambda: desk.learn((("a", 21),))), ("undo", desk.undo),
            ("take " + AC_TEXT, lambda: desk.take(("ac", (1,), ((1,),), ((5, 3),)))), ("forget", desk.forget),
            ("take " + AC_TEXT, lambda: desk.take(("ac", (1,), ((1,),), ((5, 3),)))), ("put ac", lambda: desk.put("ac")),
            ("take " + TEXT, lambda: desk.take(WORN)), ("undo", desk.undo), ("undo", desk.undo), ("undo", desk.undo),
            ("learn " + ", ".join(["a 1"] * 12), lambda: desk.learn((("a", 1),) * 12)),
            ("learn " + ", ".join(["a 1"] * 13), lambda: desk.learn((("a", 1),) * 13)),
            ("learn " + "a" * 40 + " 4", lambda: desk.learn((("a" * 40, 4),))),
        ):
            wanted = error_of(lambda: f"version {edit()}")
            self.says(shell, line, wanted)
            self.says(shell, "show", text_of(desk.chain))
            self.says(shell, "view", desk.view or "-")
            self.says(shell, "chance", told(desk.chance()))
            self.says(shell, "states", error_of(lambda: all_told(desk.states())))

    def test_undo_to_the_first_chain(self):
        shell = self.shell(WORN)
        before = self.stand(shell)
        for line in ("put ab", "learn ab 1", "take " + FLAT_TEXT, "forget"):
            shell.say(line)
        for left in (3, 2, 1, 0):
            self.says(shell, "undo", f"version {left}")
        self.says(shell, "undo", "error NothingToUndo")
        self.assertEqual(self.stand(shell), before)

    def test_a_new_desk(self):
        shell = self.shell(WORN, "ab")
        self.says(shell, "chain " + FLAT_TEXT, "version 0")
        self.says(shell, "view", "-")
        self.says(shell, "show", FLAT_TEXT)
        self.says(shell, "undo", "error NothingToUndo")
        # A text that is none leaves the desk as it was.
        self.says(shell, "put a", "version 1")
        for text in ("junk", "", TEXT + ";"):
            self.says(shell, "chain " + text, "error BadText")
            self.says(shell, "view", "a")
            self.says(shell, "show", FLAT_TEXT)

    def test_forty_edits(self):
        shell = self.shell(WORN)
        for version in range(1, 41):
            self.says(shell, "forget", f"version {version}")
        for line in ("forget", "put a", "take " + FLAT_TEXT, "learn - 1"):
            self.says(shell, line, "error TooMany")
        self.says(shell, "put c", "error Unfit")
        self.says(shell, "undo", "version 39")
        self.says(shell, "put a", "version 40")
        self.says(shell, "chain " + TEXT, "version 0")

    def test_errors_change_nothing(self):
        shell = self.shell(STILL, "a.")
        before = self.stand(shell)
        for line, name in (
            ("put c", "Unfit"), ("put " + "a" * 39, "TooMany"), ("take junk", "BadText"), ("take " + AC_TEXT.replace("ac", "bc"), "Unfit"),
            ("learn b 1", "Never"), ("learn c 1", "Unfit"), ("rank 1", "NoRank"), ("chain ", "BadText"),
            ("alike " + AC_TEXT, "Unfit"), ("odds 1 1 " + AC_TEXT, "Unfit"), ("apart 1 " + AC_TEXT, "Unfit"),
        ):
            self.says(shell, line, "error " + name)
            self.assertEqual(self.stand(shell), before)
        great = text_of(("ab", (GREAT, 7), ((GREAT, 1), (1, 2)), ((1, GREAT), (3, 1))))
        self.says(shell, "take " + great, "version 2")
        self.says(shell, "learn ab 1", "error TooMany")
        self.says(shell, "show", great)
        self.says(shell, "undo", "version 1")
        self.says(shell, "put b", "version 2")
        for line in ("states", "coming", "best", "odds 1 0 " + TEXT, "odds 2 1 " + text_of(STILL)):
            self.says(shell, line, "error Never")
        self.says(shell, "chance", "0")
        self.says(shell, "rank 0", "error NoRank")


class Texts(Shells):
    BAD = [
        "", " ", "junk", TEXT + ";", ";" + TEXT, TEXT + " ", " " + TEXT, TEXT.replace(";", "\n"), TEXT.replace(";", "\n", 1),
        TEXT + "\n", "\n", TEXT.replace("tell", "tells"), TEXT.replace("1 3", "1 03"), TEXT.replace("1 3", "0 0"), TEXT[:-2],
        TEXT.replace(" ab", " ba"), TEXT.replace("step 0 1", "step 0"), TEXT.replace(";", ";;"), TEXT.replace(";", "; "),
        TEXT.replace("1 3", "1 -3"), TEXT.replace("1 3", "1 " + "3" * 401), "signs ab", "start 1", TEXT.upper(), TEXT + ", " + TEXT,
    ]

    def test_bad_texts(self):
        for text in self.BAD:
            shell = self.shell(WORN, "ab")
            before = self.stand(shell)
            for line in ("chain ", "take ", "alike ", "odds 1 1 ", "apart 1 "):
                self.says(shell, line + text, "error BadText")
            self.assertEqual(self.stand(shell), before)
            self.says(Shell(), "chain " + text, "error BadText")

    def test_bad_texts_ahead_of_all_other_errors(self):
        full = self.shell(WORN, "ab")
        for _ in range(39):
            full.say("forget")
        self.says(full, "forget", "error TooMany")
        for line in ("odds 0 0 ", "odds -1 5 ", "odds 1 -5 ", "apart -1 ", "apart 6 ", "take ", "alike ", "chain "):
            self.says(full, line + "junk", "error BadText")
            self.says(full, line + "signs ac;start 1;step 1;tell 5 3\n", "error BadText")

    def test_great_texts(self):
        for figures, wanted in (("9" * 400, "version 0"), ("9" * 401, "error BadText")):
            self.says(Shell(), "chain signs ab;start 1;step 1;tell 1 " + figures, wanted)

    def test_texts_with_line_feeds_only_inside(self):
        for place in [found.start() for found in re.finditer(";", TEXT)]:
            text = TEXT[:place] + "\n" + TEXT[place + 1:]
            self.says(Shell(), "chain " + text, "error BadText")


class Unfits(Shells):
    def test_words_and_lengths(self):
        shell = self.shell(WORN)
        for word, fits in (
            ("a", True), ("ababab", True), ("abababa", False), ("c", False), ("a.", False), (".", False), ("A", False), ("abc", False),
            ("-", False), ("a;b", False), ("bbbbbb", True), ("0", False),
        ):
            self.says(shell, "wait " + word, told(mean_wait(WORN, word)) if fits else "error Unfit")
            for length in (0, 1, 40, 41, -1, 10 ** 29):
                wanted = told(meets(WORN, word, length)) if fits and 0 <= length <= 40 else "error Unfit"
                self.says(shell, f"meets {word} {length}", wanted)

    def test_lengths_of_apart(self):
        shell = self.shell(WORN)
        for length in range(-2, 9):
            wanted = told(apart_by(WORN, FLAT, length)) if 0 <= length <= 5 else "error Unfit"
            self.says(shell, f"apart {length} " + FLAT_TEXT, wanted)
            self.says(shell, f"apart {length} " + AC_TEXT, "error Unfit")

    def test_weights_of_odds(self):
        for view in ("", "b"):
            shell = self.shell(STILL, view)
            for first, second in itertools.product((-1, 0, 1, 2), repeat=2):
                if min(first, second) < 0 or first == second == 0:
                    # Ahead of Never.
                    wanted = "error Unfit"
                elif view and second == 0:
                    wanted = "error Never"
                else:
                    wanted = told(told_by(STILL, FLAT, first, second, view))
                self.says(shell, f"odds {first} {second} " + FLAT_TEXT, wanted)
                self.says(shell, f"odds {first} {second} " + AC_TEXT, "error Unfit")

    def test_never_told(self):
        self.says(self.shell(STILL), "wait b", "never")
        self.says(self.shell(HOP), "wait bb", "never")
        self.says(self.shell(HOP), "meets bb 40", "0")


class WhatHolds(Shells):
    def test_shells_beside_each_other(self):
        one, other = self.shell(WORN, "ab"), self.shell(FAIR, "b")
        before = [one.say(line) for line in LINES if line.split()[0] not in ("put", "take", "learn", "forget", "undo")]
        for line in ("put ab", "learn ab 3", "take " + FLAT_TEXT, "forget", "chain " + AC_TEXT):
            other.say(line)
        third = Shell()
        self.says(third, "view", "no desk")
        self.assertEqual([one.say(line) for line in LINES if line.split()[0] not in ("put", "take", "learn", "forget", "undo")], before)
        self.says(other, "show", AC_TEXT)

    def test_the_same_lines_again(self):
        for _ in range(2):
            first, second = Shell(), Shell()
            for line in ["chain " + TEXT] + LINES + NO_LINES[:20] + LINES:
                self.assertEqual(first.say(line), second.say(line))
