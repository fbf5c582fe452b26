from helpers import NOT_STRINGS, Calls
from samples import FAIR, GREAT, ONE, RING, WORN, multiplied, some_chains

from veiledchains.chains import chain_error
from veiledchains.chaintexts import chain_text, read_chain
from veiledchains.errors import BadText

CHAINS = [WORN, FAIR, RING, ONE] + some_chains() + some_chains(2) + some_chains(400)
TEXT = "signs ab\nstart 1 1\nstep 1 1\nstep 0 1\ntell 1 0\ntell 1 3"


def written(chain):
    signs, start, steps, tells = chain
    rows = [("signs", signs), ("start", *start)]
    rows += [("step", *line) for line in steps] + [("tell", *line) for line in tells]
    return "\n".join(" ".join(map(str, row)) for row in rows)


def meant(text):
    """The chain that text seems to mean, if it is its text; otherwise None."""
    try:
        rows = [row.split() for row in text.split("\n")]
        lines = [tuple(map(int, row[1:])) for row in rows[1:]]
        middle = 1 + len(lines[0])
        chain = (rows[0][1], lines[0], tuple(lines[1:middle]), tuple(lines[middle:]))
    except (ValueError, IndexError):
        return None
    weights = [weight for line in lines for weight in line]
    if chain_error(chain) is None and written(chain) == text and max(weights) < 10 ** 400:
        return chain
    return None


class Texts(Calls):
    def test_examples(self):
        self.tells(TEXT, chain_text, chain=WORN)
        self.tells(WORN, read_chain, value=TEXT)
        self.tells(ONE, read_chain, value="signs z\nstart 7\nstep 2\ntell 1")
        self.tells("signs z\nstart 7\nstep 2\ntell 1", chain_text, chain=ONE)

    def test_all_chains(self):
        for chain in CHAINS:
            self.tells(written(chain), chain_text, chain=chain)
            self.tells(chain, read_chain, value=written(chain))

    def test_weights_as_they_stand(self):
        chain = multiplied(multiplied(FAIR))
        self.tells(chain, read_chain, value=chain_text(chain))
        self.tells(("ab", (2, 4), ((6, 6), (0, 9)), ((10, 0), (0, 8))), read_chain,
                   value="signs ab\nstart 2 4\nstep 6 6\nstep 0 9\ntell 10 0\ntell 0 8")

    def test_unlike_chains_have_unlike_texts(self):
        chains = set(CHAINS) | {multiplied(chain) for chain in CHAINS}
        self.assertEqual(len({chain_text(chain) for chain in chains}), len(chains))

    def test_weights_of_400_figures(self):
        nines = 10 ** 400 - 1
        chain = ("ab", (nines, GREAT), ((0, nines), (GREAT, 1)), ((nines, nines), (GREAT, 0)))
        self.tells(written(chain), chain_text, chain=chain)
        self.tells(chain, read_chain, value=written(chain))

    def test_weights_beyond_the_limit(self):
        for figures in (401, 1000, 5000):
            text = "signs z\nstart 1" + "0" * (figures - 2) + "7\nstep 1\ntell 1"
            self.tells(text, chain_text, chain=("z", (10 ** (figures - 1) + 7,), ((1,),), ((1,),)))

    def test_the_bounds(self):
        for states in range(1, 7):
            for signs in ("k", "abcde"):
                chain = (signs, (1,) * states, ((2,) * states,) * states, ((3,) * len(signs),) * states)
                self.tells(chain, read_chain, value=written(chain))


class BadTexts(Calls):
    def bad(self, *values):
        for value in values:
            self.refuses(BadText(), read_chain, value=value)

    def test_examples(self):
        self.bad(
            "signs z\nstart 7\nstep 2\ntell 01", "signs z\nstart 7\nstep 2\ntell 1\n", "signs z\nstart 7\ntell 1\nstep 2",
        )

    def test_lines_left_out_doubled_exchanged(self):
        for text in (TEXT, written(FAIR), "signs z\nstart 7\nstep 2\ntell 1"):
            rows = text.split("\n")
            for at in range(len(rows)):
                self.bad("\n".join(rows[:at] + rows[at + 1:]), "\n".join(rows[:at + 1] + rows[at:]))
                self.bad("\n".join(rows[:at] + [""] + rows[at:]), "\n".join(rows[:at]))
                for other in range(at):
                    if rows[at].split()[0] != rows[other].split()[0]:
                        turned = list(rows)
                        turned[at], turned[other] = rows[other], rows[at]
                        self.bad("\n".join(turned))
            self.bad(text + "\n", "\n" + text, text + "\n\n", text + "\n" + text, text + " ", " " + text, text.upper())

    def test_other_words(self):
        rows = TEXT.split("\n")
        for at, row in enumerate(rows):
            word, rest = row.split(" ", 1)
            for other in ("", "x", "sign", "signs", "start", "starts", "step", "steps", "tell", "tells", "Step", "TELL"):
                if other != word:
                    self.bad("\n".join(rows[:at] + [other + " " + rest] + rows[at + 1:]))
            self.bad("\n".join(rows[:at] + [rest] + rows[at + 1:]), "\n".join(rows[:at] + [word] + rows[at + 1:]))
            self.bad("\n".join(rows[:at] + [word + " "] + rows[at + 1:]))

    def test_each_weight(self):
        rows = TEXT.split("\n")
        for at in range(1, len(rows)):
            words = rows[at].split(" ")
            for place in range(1, len(words)):
                for weight in [
                    "-1", "-0", "+1", "+0", "1_0", "01", "00", "000", "", "a", "1.0", "1e1", "0x1", "1/2", "\t1", "\u0661",
                    "\u00b2", "1" + "0" * 400, "9" * 401, "9" * 4300, "9" * 5000, "0" * 400 + "1", "0" * 5000,
                ]:
                    changed = words[:place] + [weight] + words[place + 1:]
                    self.bad("\n".join(rows[:at] + [" ".join(changed)] + rows[at + 1:]))

    def test_lines_of_noughts_too_long_too_short(self):
        rows = TEXT.split("\n")
        for at in range(1, len(rows)):
            word = rows[at].split(" ")[0]
            for line in (" 0 0", " 1", " 1 1 1", "  1 1", " 1  1", " 1 1 ", ""):
                self.bad("\n".join(rows[:at] + [word + line] + rows[at + 1:]))

    def test_signs(self):
        for signs in [
            "", "ba", "aa", "a", "abc", "abcdef", "a b", "A", "AB", "Ab", "a1", "a.", "..", "ab ", " ab", "`a", "a{", "\u00e9a",
        ]:
            self.bad(TEXT.replace("ab", signs))
        self.bad("signs abcdef\nstart 1\nstep 1\ntell 1 1 1 1 1 1")

    def test_seven_states(self):
        line = " 1" * 7
        self.bad("signs z\nstart" + line + ("\nstep" + line) * 7 + "\ntell 1" * 7)

    def test_other_characters_between(self):
        for sign in ("\t", "\r", "\r\n", "\x0b", "\x0c", "\x1c", "\x85", "\u2028", "\u00a0", ";", ",", "  ", "\n\n", " \n", "\n "):
            self.bad(TEXT.replace("\n", sign), TEXT.replace(" ", sign), TEXT + sign, sign + TEXT)
            self.bad(TEXT.replace("\n", sign, 1), TEXT.replace(" ", sign, 1))

    def test_no_texts_at_all(self):
        self.bad("", "\n", " ", "signs", "signs ", "signs z", "signs z\nstart 1", "signs z\nstart 1\nstep 1", "\n" * 20000)
        self.bad("signs z\nstart 1\nstep 1\nstep 1\ntell 1\ntell 1", "signs z\nstart 1 1\nstep 1 1\ntell 1", "a" * 20000)

    def test_what_is_no_string(self):
        self.bad(*NOT_STRINGS, WORN, list(WORN), TEXT.split("\n"), tuple(TEXT), (TEXT,), [TEXT])

    def test_all_texts_near_by(self):
        for text in (TEXT, "signs z\nstart 7\nstep 2\ntell 1"):
            near = set()
            for at in range(len(text) + 1):
                near.add(text[:at] + text[at + 1:])
                for sign in " \n0123-+_./,abcz":
                    near.add(text[:at] + sign + text[at:])
                    near.add(text[:at] + sign + text[at + 1:])
            for value in sorted(near):
                chain = meant(value)
                self.tells(BadText() if chain is None else chain, read_chain, value=value)
