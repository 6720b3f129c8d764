"""Point 2: the characters, the tokens, the grammar, and SyntaxFault."""

import unittest

from tests.support import CALLS, syntax_place
from watervalves.formatter import format_plan, valves

HEAD = "round 9; open 1; valves a b;"
TIGHT = "round 9;\nopen 1;\nvalves a b;"


class SyntaxTest(unittest.TestCase):
    def assert_fault(self, plan, line, column):
        """Every function that takes a plan raises the same SyntaxFault."""
        for name, call in CALLS.items():
            with self.subTest(function=name, plan=plan):
                self.assertEqual(syntax_place(call, plan), (line, column))

    def assert_fault_at(self, plan, part):
        """The fault is where a part stands that occurs once, in a plan of one line."""
        self.assertEqual(plan.count(part), 1)
        self.assert_fault(plan, 0, plan.index(part))


class Characters(SyntaxTest):
    def test_every_other_character_starts_no_token(self):
        allowed = "abcdefghijklmnopqrstuvwxyz0123456789; "
        for code in range(32, 127):
            if chr(code) not in allowed:
                with self.subTest(chr(code)):
                    self.assertEqual(syntax_place(format_plan, HEAD + "\n " + chr(code)), (1, 1))

    def test_percent_sign(self):
        self.assert_fault_at(HEAD + " start a 0 % for 2;", "%")

    def test_capital_letters(self):
        self.assert_fault_at(HEAD + " Start a 0 for 2;", "S")
        self.assert_fault_at(HEAD + " stArt a 0 for 2;", "A")

    def test_tabs_and_other_white_space(self):
        for char in ("\t", "\r", "\f", "\v", "\0", "\x7f", "\x85", "\xa0", "\u2028"):
            with self.subTest(char):
                self.assertEqual(syntax_place(format_plan, HEAD + "\n" + char), (1, 0))

    def test_letters_and_digits_beyond_ascii(self):
        for char in ("\xe9", "\xdf", "\xb2", "\u0663", "\u0430"):
            with self.subTest(char):
                self.assertEqual(syntax_place(format_plan, "round 9; open 1; valves a" + char), (0, 25))

    def test_inside_a_word_the_character_itself_is_the_place(self):
        self.assert_fault("round 9; open 1; valves a_b;", 0, 25)


class Tokens(SyntaxTest):
    def test_word_of_eight_letters(self):
        self.assertEqual(valves("round 9; open 1; valves abcdefgh;"), ["abcdefgh"])

    def test_word_of_nine_letters(self):
        self.assert_fault_at("round 9; open 1; valves abcdefghi;", "abcdefghi")

    def test_word_of_nine_letters_that_begins_with_a_keyword(self):
        self.assert_fault("roundabout 9;", 0, 0)
        self.assert_fault_at(HEAD + " startstar 0 for 2;", "startstar")

    def test_words_that_contain_keywords_are_names(self):
        plan = "round 9; open 1; valves rounds opens valve st fort paus ranks;"
        self.assertEqual(valves(plan), ["rounds", "opens", "valve", "st", "fort", "paus", "ranks"])

    def test_names_of_kinds_of_tokens_are_names(self):
        plan = "round 9; open 1; valves name number names plan; start number 0 for 1;"
        self.assertEqual(valves(plan), ["name", "number", "names", "plan"])

    def test_first_and_last_letter(self):
        self.assertEqual(valves("round 9; open 1; valves az za;"), ["az", "za"])

    def test_numbers_with_leading_zeros(self):
        for number in ("00", "01", "09"):
            with self.subTest(number):
                self.assert_fault_at(HEAD + f" start a {number} for 2;", number)

    def test_zero_is_a_number(self):
        self.assertEqual(format_plan(HEAD + "pause 0 0;"), TIGHT + "\npause 0 0;")

    def test_numbers_with_three_digits(self):
        for number in ("100", "123", "000", "012"):
            with self.subTest(number):
                self.assert_fault_at(HEAD + f" start a {number} for 2;", number)

    def test_two_digits(self):
        self.assertEqual(format_plan("round 60;open 1;valves a;"), "round 60;\nopen 1;\nvalves a;")

    def test_the_first_invalid_token_counts(self):
        self.assert_fault(HEAD + "\n 01 abcdefghi %", 1, 1)
        self.assert_fault(HEAD + "\n abcdefghi % 01", 1, 1)
        self.assert_fault(HEAD + "\n % 01 abcdefghi", 1, 1)

    def test_an_invalid_token_goes_before_the_grammar(self):
        self.assert_fault("valves ; ;\n;; round round\n  for 007;", 2, 6)
        self.assert_fault("9 9 9 !", 0, 6)
        self.assert_fault("!", 0, 0)

    def test_an_invalid_token_goes_before_the_checks(self):
        self.assert_fault("round 99; open 1; valves a; start z 98 for 100;", 0, 43)


class Spaces(SyntaxTest):
    def test_no_spaces_where_none_are_needed(self):
        plan = "round9;open1;valves a b;rank b;start a0for2;pause3 4;"
        self.assertEqual(format_plan(plan), TIGHT + "\nrank b a;\nstart a 0 for 2;\npause 3 4;")

    def test_a_name_directly_behind_a_number(self):
        self.assert_fault_at("round 9x; open 1; valves a;", "x")

    def test_spaces_and_line_feeds_everywhere(self):
        words = "round 9 ; open 1 ; valves a b ; rank b ; start a 0 for 2 ; pause 3 4 ;".split(" ")
        expected = TIGHT + "\nrank b a;\nstart a 0 for 2;\npause 3 4;"
        for gap in ("\n", "   ", " \n\n "):
            with self.subTest(gap):
                self.assertEqual(format_plan(gap + gap.join(words) + gap), expected)

    def test_words_that_run_together(self):
        self.assert_fault("rou nd 9; open 1; valves a;", 0, 0)
        self.assertEqual(valves("round 9; open 1; valves ab;"), ["ab"])

    def test_digits_apart_are_two_numbers(self):
        self.assert_fault("round 1 2; open 1; valves a;", 0, 8)


class Grammar(SyntaxTest):
    def test_only_the_head(self):
        self.assertEqual(format_plan(HEAD), TIGHT)

    def test_head_in_another_order(self):
        self.assert_fault("open 1; round 9; valves a;", 0, 0)
        self.assert_fault_at("round 9; valves a; open 1;", "valves")
        self.assert_fault_at("round 9; open 1; start a 0 for 2; valves a;", "start")

    def test_head_again(self):
        self.assert_fault(HEAD + "\nround 9;", 1, 0)
        self.assert_fault(HEAD + "\nopen 1;", 1, 0)
        self.assert_fault(HEAD + "\nvalves c;", 1, 0)

    def test_missing_parts(self):
        self.assert_fault("round ; open 1; valves a;", 0, 6)
        self.assert_fault_at("round 9 open 1; valves a;", "open")
        self.assert_fault("round 9; open; valves a;", 0, 13)
        self.assert_fault("round 9; open 1; valves;", 0, 23)
        self.assert_fault(HEAD + "\nstart 0 for 2;", 1, 6)
        self.assert_fault(HEAD + "\nstart a for 2;", 1, 8)
        self.assert_fault(HEAD + "\nstart a 0 2;", 1, 10)
        self.assert_fault(HEAD + "\nstart a 0 for;", 1, 13)
        self.assert_fault(HEAD + "\npause;", 1, 5)
        self.assert_fault(HEAD + "\npause 1;", 1, 7)
        self.assert_fault(HEAD + "\nrank;", 1, 4)
        self.assert_fault(HEAD + "\nrank a\npause 1 2;", 2, 0)

    def test_superfluous_tokens(self):
        self.assert_fault("round 9 9; open 1; valves a;", 0, 8)
        self.assert_fault("round 9;; open 1; valves a;", 0, 8)
        self.assert_fault("round 9; open 1 1; valves a;", 0, 16)
        self.assert_fault("round 9; open 1; valves a 1;", 0, 26)
        self.assert_fault(HEAD + ";", 0, len(HEAD))
        self.assert_fault(HEAD + "\nstart a b 0 for 2;", 1, 8)
        self.assert_fault(HEAD + "\nstart a 0 for 2 3;", 1, 16)
        self.assert_fault(HEAD + "\npause 1 2 3;", 1, 10)
        self.assert_fault(HEAD + "\npause 1 2;\n ;", 2, 1)
        self.assert_fault(HEAD + "\nrank a b 1;", 1, 9)
        self.assert_fault(HEAD + "\na;", 1, 0)
        self.assert_fault(HEAD + "\n7;", 1, 0)
        self.assert_fault(HEAD + "\nfor 7;", 1, 0)

    def test_keywords_in_the_place_of_names(self):
        for word in ("round", "open", "valves", "start", "for", "pause", "rank"):
            self.assert_fault(f"round 9; open 1;\nvalves {word};", 1, 7)
            self.assert_fault(f"round 9; open 1;\nvalves a {word};", 1, 9)
            self.assert_fault(HEAD + f"\nstart {word} 0 for 2;", 1, 6)
            self.assert_fault(HEAD + f"\nrank {word};", 1, 5)
            self.assert_fault(HEAD + f"\nrank a {word};", 1, 7)

    def test_names_in_the_place_of_keywords(self):
        self.assert_fault("rounds 9; open 1; valves a;", 0, 0)
        self.assert_fault(HEAD + "\nstart a 0 of 2;", 1, 10)

    def test_the_first_token_that_does_not_fit_counts(self):
        self.assert_fault("round 9; open; valves ;\nfoo", 0, 13)

    def test_the_grammar_goes_before_the_checks(self):
        self.assert_fault("round 99; open 0; valves a a;\nstart z 98 for 99", 2, 0)


class Ends(SyntaxTest):
    def test_empty_plans(self):
        self.assert_fault("", 1, 0)
        self.assert_fault("   ", 1, 0)
        self.assert_fault("\n", 2, 0)
        self.assert_fault(" \n\n ", 3, 0)

    def test_plans_that_end_too_early(self):
        words = (HEAD + " rank b a; start a 0 for 2; pause 3 4;").replace(";", " ;").split(" ")
        complete = [index for index in range(9, len(words)) if words[index] == ";"]
        for count in range(len(words)):
            if count - 1 not in complete:
                with self.subTest(count):
                    self.assert_fault(" ".join(words[:count]), 1, 0)
                    self.assert_fault("\n".join(words[:count]), max(count, 1), 0)

    def test_line_feeds_at_the_end(self):
        self.assert_fault("round 9;", 1, 0)
        self.assert_fault("round 9;\n", 2, 0)
        self.assert_fault("round 9;\n\n  \n", 4, 0)
        self.assert_fault("\nround 9;\nopen 1; valves a", 3, 0)

    def test_complete_plans_with_line_feeds_at_the_end(self):
        self.assertEqual(format_plan("\n\n" + HEAD + "\n\n"), TIGHT)


class OtherKinds(SyntaxTest):
    def test_what_is_no_text_is_no_plan(self):
        for plan in (None, True, False, 0, 9, ("round",), [], ["round 9; open 1; valves a;"]):
            self.assert_fault(plan, 0, 0)


if __name__ == "__main__":
    unittest.main()
