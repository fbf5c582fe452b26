"""The names of the interface stand in their files, with the told arguments."""

import importlib
import inspect
import unittest

TOLD = {
    "fractions": {
        "lowest": "a b", "added": "one other", "multiplied": "one other", "divided": "one other",
        "compared": "one other", "fraction_text": "fraction", "read_fraction": "value",
    },
    "chains": {
        "chain_error": "value", "plain": "chain", "start_share": "chain state", "step_share": "chain one other",
        "tell_share": "chain state sign",
    },
    "chaintexts": {"chain_text": "chain", "read_chain": "value"},
    "views": {"view_error": "chain value", "course_error": "chain view value"},
    "courses": {
        "course_chance": "chain view course", "chance": "chain view", "possible_count": "chain view",
        "course_at": "chain view number",
    },
    "along": {
        "ahead_table": "chain view", "behind_table": "chain view", "states_told": "chain view",
        "pairs_told": "chain view", "likeliest_states": "chain view", "told_ahead": "chain view sign",
    },
    "best": {
        "best_course": "chain view", "best_count": "chain view", "ranked": "chain view number",
        "best_through": "chain view place state",
    },
    "prices": {"prices_bound": "chain view value", "prices": "chain view"},
    "words": {
        "meets": "chain word length", "first_ends": "chain word length", "sure_word": "chain word",
        "mean_wait": "chain word",
    },
    "alike": {
        "onward": "chain row", "alike": "one other", "kept_words": "one other", "account": "one other",
        "account_error": "one other value", "alike_by": "one other value",
    },
    "machines": {
        "machine_error": "value", "taken": "machine row", "least_machine": "machine", "turned": "machine",
        "both": "one other", "either": "one other", "word_machine": "signs word", "alike_machines": "one other",
    },
    "worlds": {
        "taken_share": "chain machine length", "first_taken": "chain machine length",
        "taken_states": "chain machine view", "best_taken": "chain machine view", "ever_share": "chain machine",
        "mean_taken": "chain machine",
    },
    "lumps": {"lump_error": "chain value", "lumped": "chain parts", "coarsest": "chain"},
    "making": {
        "ordered": "chain order", "slim": "chain", "mixed": "one other first second", "behind_view": "chain view",
    },
    "heaps": {"heap_error": "chain value", "heap_chance": "chain heap"},
    "learning": {
        "counts": "chain heap", "learned": "chain heap", "rests": "chain heap", "led": "chain heap turns",
        "counted": "chain pairs", "pairs_chance": "chain pairs",
    },
    "longrun": {
        "homes": "chain", "home_shares": "chain", "beat_shares": "chain beat", "stays": "chain", "long_shares": "chain",
        "long_signs": "chain", "mean_return": "chain state", "long_paper": "chain", "long_holds": "chain value",
    },
    "odds": {
        "told_by": "one other first second view", "test_error": "one length value", "slips": "one other test length",
        "best_test": "one other first second length", "least_slip": "one other first second length",
        "sharpest": "one other length most", "apart_by": "one other length",
    },
    "desks": {"desk_behind": "chain log"},
    "rows": {"rows_ahead": "chain row", "row_at": "chain length share", "never_row": "chain"},
}

CLASSES = {
    "desks": {"Desk": {
        "__init__": "self chain", "copy": "self", "put": "self view", "take": "self chain", "learn": "self heap",
        "forget": "self", "undo": "self", "chance": "self", "states": "self", "coming": "self", "best": "self",
        "ranked": "self number", "__eq__": "self other",
    }},
    "shells": {"Shell": {"__init__": "self", "say": "self line"}},
}
PROPERTIES = {"Desk": ("chain", "view", "log", "version")}


class Interface(unittest.TestCase):
    def test_functions(self):
        for name, functions in TOLD.items():
            module = importlib.import_module("veiledchains." + name)
            for function, arguments in functions.items():
                found = getattr(module, function)
                self.assertTrue(inspect.isfunction(found), function)
                self.assertEqual(found.__module__, module.__name__, function)
                parameters = inspect.signature(found).parameters.values()
                self.assertEqual([one.name for one in parameters], arguments.split(), function)
                self.assertEqual({one.kind for one in parameters}, {inspect.Parameter.POSITIONAL_OR_KEYWORD}, function)
                self.assertEqual({one.default for one in parameters}, {inspect.Parameter.empty}, function)

    def test_classes(self):
        for name, classes in CLASSES.items():
            module = importlib.import_module("veiledchains." + name)
            for kind, methods in classes.items():
                found = getattr(module, kind)
                self.assertTrue(inspect.isclass(found), kind)
                self.assertEqual(found.__module__, module.__name__, kind)
                for method, arguments in methods.items():
                    # In the body of the class itself.
                    function = vars(found)[method]
                    self.assertTrue(inspect.isfunction(function), method)
                    parameters = inspect.signature(function).parameters.values()
                    self.assertEqual([one.name for one in parameters], arguments.split(), method)
                    self.assertEqual({one.default for one in parameters}, {inspect.Parameter.empty}, method)
                for word in PROPERTIES.get(kind, ()):
                    self.assertIsInstance(vars(found)[word], property, word)
                    self.assertIsNone(vars(found)[word].fset, word)

    def test_nothing_is_left_out(self):
        """All names of the document's interface are looked at here, or in the tests of bounds and errors."""
        self.assertEqual(sum(map(len, TOLD.values())), 91)
        self.assertEqual(set(TOLD) | set(CLASSES) | {"bounds", "errors"}, {
            "bounds", "errors", "fractions", "chains", "chaintexts", "views", "courses", "along", "best", "prices", "rows",
            "words", "alike", "lumps", "making", "heaps", "learning", "longrun", "odds", "machines", "worlds", "desks", "shells",
        })


if __name__ == "__main__":
    unittest.main()
