"""Each name of the interface is defined in the file under which the interface lists it."""

import importlib
import unittest

INTERFACE = {
    "errors": [
        "PatternError", "InvalidPattern", "InvalidWord", "InvalidAssignment", "InvalidNumber", "InvalidLetters",
        "InvalidChain", "NotSure", "NotFree", "EmptyResult", "TooShort", "TooLong", "TooMany", "TooLarge",
        "NotACertificate", "InvalidName", "NameTaken", "UnknownName", "Full", "InvalidMark",
    ],
    "patterns": ["is_pattern", "is_word", "letters_of", "normal_form", "value_of"],
    "occurrences": ["occurrences_at", "first_occurrence", "meets", "count_occurrences"],
    "joins": ["joined", "is_free", "free_sets"],
    "chains": ["delete", "is_chain", "shortest_chain", "index_of", "is_sure"],
    "standard": ["standard_word", "letter_at", "find_in_standard"],
    "embedding": ["occurrence_by_chain", "occurrence_in_standard"],
    "closed": ["reachable_sets", "closed_family", "is_closed_family"],
    "lengths": ["sure_length", "sure_occurrence"],
    "avoiding": ["avoiding_words", "count_avoiding", "least_avoiding"],
    "order": ["contains", "sure_patterns", "standard_pattern"],
    "workspace": ["Workspace"],
    "checker": ["check"],
    "wrongs": ["InvalidRule", "InvalidShape", "InvalidWay", "NoDelay", "NotARecord"],
    "rules": ["is_rule", "image_of", "rule_start", "rule_letter"],
    "factors": ["factors_of", "is_factor", "factor_place", "is_factor_list"],
    "cuts": ["cuts_of", "cut_list", "is_cut_list", "delay_of", "two_places", "short_words"],
    "shapes": ["is_shape", "is_dead", "are_choices", "results_of", "live_steps"],
    "ways": ["occurs", "way_of", "closed_shapes", "is_way", "are_closed_shapes"],
    "far": ["far_occurrence", "far_word"],
    "avoiders": ["rules_of", "does_avoid", "first_avoider"],
    "book": ["Book"],
    "records": ["judge"],
}
STAGE_11 = ["put", "step", "remove", "mark", "back", "names", "marks", "pattern", "sure_names", "containing"]
METHODS = {
    ("workspace", "Workspace"): STAGE_11,
    ("book", "Book"): STAGE_11 + ["put_rule", "remove_rule", "rule", "rule_names", "avoided", "avoiders"],
}


class Interface(unittest.TestCase):
    def test_names_stand_in_their_files(self):
        for file, names in INTERFACE.items():
            module = importlib.import_module(f"surepatterns.{file}")
            for name in names:
                with self.subTest(file=file, name=name):
                    self.assertEqual(getattr(module, name).__module__, module.__name__)

    def test_a_book_is_a_workspace(self):
        book = importlib.import_module("surepatterns.book").Book
        self.assertTrue(issubclass(book, importlib.import_module("surepatterns.workspace").Workspace))

    def test_methods_stand_in_their_classes(self):
        for (file, name), methods in METHODS.items():
            body = vars(getattr(importlib.import_module(f"surepatterns.{file}"), name))
            for method in methods:
                with self.subTest(name=name, method=method):
                    self.assertIn(method, body)
