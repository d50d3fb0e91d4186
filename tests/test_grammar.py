"""What may stand where: fault 2, and its place."""

import unittest

from helper import load_answer, marked

RESERVED = (
    "table", "row", "ask", "index", "where", "and", "from", "to",
    "by", "back", "wants", "first", "times", "on", "with", "only",
)

RICH = (
    "table ( a , b , c , d ) ; row 1 , 5 , 0 , 9 times 10 ; row 2 , 5 , 0 , 9 times 1 ; "
    "ask q where a = 2 and b from 1 to 3 by b , a back wants a , c first 3 times 1 ; ask r ; "
    "index i on a , b with c , d only a = 1 ; index j on b only a from 0 to 9 ;"
).split()


class GrammarTest(unittest.TestCase):
    def fault_2(self, text):
        plain, place = marked(text)
        self.assertEqual(load_answer(plain), [1, 2, place], plain)

    def accepted(self, text, counts):
        self.assertEqual(load_answer(text), [0] + counts, text)

    def test_the_whole_grammar(self):
        self.accepted(" ".join(RICH), [4, 2, 2, 2])

    def test_a_text_that_ends_too_early(self):
        for length in range(len(RICH)):
            text = " ".join(RICH[:length])
            if length > 0 and RICH[length - 1] == ";":
                self.assertEqual(load_answer(text)[0], 0, text)
            else:
                self.assertEqual(load_answer(text), [1, 2, len(text)], text)
                self.assertEqual(load_answer(text + " \n "), [1, 2, len(text) + 3], text)

    def test_a_token_that_can_not_stand_there(self):
        for position, token in enumerate(RICH):
            could_stand = {",": (")",), "from": ("=",)}.get(token, ()) + (token,)
            for wrong in ("(", ")", "table", "="):
                if wrong not in could_stand or (wrong == ")" and "row" in RICH[:position]):
                    ahead = "".join([earlier + " " for earlier in RICH[:position]])
                    self.assertEqual(load_answer(ahead + wrong), [1, 2, len(ahead)], ahead + wrong)

    def test_no_text_at_all(self):
        self.assertEqual(load_answer(""), [1, 2, 0])
        self.assertEqual(load_answer("   \n"), [1, 2, 4])

    def test_the_text_end(self):
        self.assertEqual(load_answer("table (a)"), [1, 2, 9])
        self.assertEqual(load_answer("table (a) \n"), [1, 2, 11])
        self.assertEqual(load_answer("table (a); row 1 times 1"), [1, 2, 24])
        self.assertEqual(load_answer("table (a); ask q"), [1, 2, 16])
        self.assertEqual(load_answer("table (a); index i"), [1, 2, 18])

    def test_a_table_comes_first_and_once(self):
        self.fault_2("^row 1 times 1; table (a);")
        self.fault_2("^ask q;")
        self.fault_2("^a")
        self.fault_2("^1")
        self.fault_2("^;")
        self.fault_2("table (a); ^table (b);")
        self.fault_2("table (a); ^;")
        self.fault_2("table ^a;")
        self.fault_2("table (^);")
        self.fault_2("table (a,^);")
        self.fault_2("table (^1);")
        self.fault_2("table (a^;")
        self.fault_2("table (a, b) ^row 1, 1 times 1;")

    def test_reserved_words_are_no_names(self):
        for word in RESERVED:
            self.fault_2(f"table (^{word});")
            self.fault_2(f"table (a, ^{word});")
            self.fault_2(f"table (a); ask ^{word};")
            self.fault_2(f"table (a); index ^{word} on a;")
            self.fault_2(f"table (a); ask q by ^{word};")
            self.fault_2(f"table (a); ask q by a, ^{word};")
            self.fault_2(f"table (a); ask q wants ^{word};")
            self.fault_2(f"table (a); ask q where ^{word} = 1;")
            self.fault_2(f"table (a); ask q where a = 1 and ^{word} = 1;")
            self.fault_2(f"table (a); index i on ^{word};")
            self.fault_2(f"table (a); index i on a with ^{word};")
            self.fault_2(f"table (a); index i on a only ^{word} = 1;")
            self.fault_2(f"table (a, b, c, d, ^{word});")

    def test_words_like_reserved_ones_are_names(self):
        for word in RESERVED:
            for name in (word + "x", word[:-1] + "q", "x" + word):
                self.accepted(f"table ({name}); ask {name} by {name}; index {name} on {name};", [1, 0, 1, 1])

    def test_a_row_has_a_value_for_each_column(self):
        self.accepted("table (a, b, c); row 1, 2, 3 times 4;", [3, 1, 0, 0])
        self.fault_2("table (a, b); row 1 ^times 4;")
        self.fault_2("table (a, b, c, d); row 1, 2, 3 ^times 4;")
        self.fault_2("table (a); row 1^, 2 times 4;")
        self.fault_2("table (a, b, c, d); row 1, 2, 3, 4^, 5 times 4;")
        self.fault_2("table (a, b); row ^, 2 times 4;")
        self.fault_2("table (a, b); row 1, ^times 4;")
        self.fault_2("table (a, b); row 1 ^2 times 4;")
        self.fault_2("table (a); row ^a times 4;")
        self.fault_2("table (a); row ^times 4;")
        self.fault_2("table (a); row 1^;")
        self.fault_2("table (a); row 1 times ^;")
        self.fault_2("table (a); row 1 times ^a;")
        self.fault_2("table (a); row 1 times 2 ^row 2 times 2;")

    def test_the_order_of_rows_questions_and_indexes(self):
        self.fault_2("table (a); ask q; ^row 1 times 1;")
        self.fault_2("table (a); index i on a; ^row 1 times 1;")
        self.fault_2("table (a); index i on a; ^ask q;")

    def test_the_order_of_what_a_question_has(self):
        parts = ("where a = 1", "by a", "wants a", "first 1", "times 1")
        for later in range(5):
            self.accepted(f"table (a); ask q {parts[later]};", [1, 0, 1, 0])
            for earlier in range(later + 1):
                self.fault_2(f"table (a); ask q {parts[later]} ^{parts[earlier]};")
            for behind in range(later + 1, 5):
                self.accepted(f"table (a); ask q {parts[later]} {parts[behind]};", [1, 0, 1, 0])

    def test_what_a_question_can_not_have(self):
        self.fault_2("table (a); ask ^;")
        self.fault_2("table (a); ask ^1;")
        self.fault_2("table (a); ask q ^r;")
        self.fault_2("table (a); ask q ^back;")
        self.fault_2("table (a); ask q where a = 1 ^back;")
        self.fault_2("table (a); ask q by a back ^back;")
        self.fault_2("table (a, b); ask q by a back^, b;")
        self.fault_2("table (a, b); ask q by a ^b;")
        self.fault_2("table (a); ask q by ^;")
        self.fault_2("table (a); ask q by ^1;")
        self.fault_2("table (a); ask q wants a ^back;")
        self.fault_2("table (a); ask q wants ^;")
        self.fault_2("table (a); ask q first ^;")
        self.fault_2("table (a); ask q first ^a;")
        self.fault_2("table (a); ask q times ^;")
        self.fault_2("table (a); ask q ^on a;")
        self.fault_2("table (a); ask q ^only a = 1;")
        self.fault_2("table (a); ask q ^and a = 1;")

    def test_what_a_filter_can_not_have(self):
        for ahead in ("ask q where", "index i on a only"):
            self.fault_2(f"table (a); {ahead} ^;")
            self.fault_2(f"table (a); {ahead} a ^;")
            self.fault_2(f"table (a); {ahead} a ^1;")
            self.fault_2(f"table (a); {ahead} a = ^;")
            self.fault_2(f"table (a); {ahead} a = ^a;")
            self.fault_2(f"table (a); {ahead} a ^to 1;")
            self.fault_2(f"table (a); {ahead} a from ^;")
            self.fault_2(f"table (a); {ahead} a from 1 ^;")
            self.fault_2(f"table (a); {ahead} a from 1 ^2;")
            self.fault_2(f"table (a); {ahead} a from 1 to ^;")
            self.fault_2(f"table (a); {ahead} a = 1 ^to 2;")
            self.fault_2(f"table (a); {ahead} a from 1 to 2 ^3;")
        self.fault_2("table (a, b); ask q where a = 1^, b = 2;")
        self.fault_2("table (a, b); ask q where a = 1 and ^;")

    def test_what_an_index_can_not_have(self):
        self.fault_2("table (a); index ^on a;")
        self.fault_2("table (a); index i ^;")
        self.fault_2("table (a); index i ^a;")
        self.fault_2("table (a); index i on ^;")
        self.fault_2("table (a, b); index i ^with b;")
        self.fault_2("table (a, b); index i ^only b = 1;")
        self.fault_2("table (a, b); index i on a with ^;")
        self.fault_2("table (a, b); index i on a with b ^with b;")
        self.fault_2("table (a, b); index i on a only b = 1 ^with b;")
        self.fault_2("table (a, b); index i on a only b = 1 ^and a = 1;")
        self.fault_2("table (a, b); index i on a only b = 1 ^only b = 1;")
        self.fault_2("table (a); index i on a ^back;")
        self.fault_2("table (a); index i on a ^times 1;")


if __name__ == "__main__":
    unittest.main()
