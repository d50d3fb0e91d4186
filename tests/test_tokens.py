"""Words, numbers, signs and blanks of a text; fault 1, and that it counts ahead of all others."""

import unittest

from helper import form_of, load_answer, marked

LETTERS = range(97, 123)
DIGITS = range(48, 58)
SIGNS = (40, 41, 44, 59, 61)
BLANKS = (32, 10)


class TokenTest(unittest.TestCase):
    def fault_1(self, text):
        plain, place = marked(text)
        self.assertEqual(load_answer(plain), [1, 1, place], plain)

    def test_each_byte_behind_a_text(self):
        text = list(b"table (a);")
        for byte in range(256):
            if byte in BLANKS:
                wanted = [0, 1, 0, 0, 0]
            elif byte in LETTERS or byte in DIGITS or byte in SIGNS:
                wanted = [1, 2, 10]
            else:
                wanted = [1, 1, 10]
            self.assertEqual(load_answer(text + [byte]), wanted, byte)

    def test_each_letter_stands_for_itself(self):
        for start in range(0, 26, 7):
            name = "abcdefghijklmnopqrstuvwxyz"[start:start + 7]
            self.assertEqual(form_of(f"table({name});"), f"table ({name});\n")

    def test_each_digit_stands_for_itself(self):
        for number in (234567, 987654, 1, 100000, 909090):
            self.assertEqual(form_of(f"table(a);row 0 times {number};"), f"table (a);\nrow 0 times {number};\n")

    def test_blanks_mean_nothing(self):
        form = "table (a, b);\nrow 1, 2 times 3;\nask q where a = 1 by b back times 1;\n"
        for text in (
            "table(a,b);row 1,2times 3;ask q where a=1by b back;",
            "table(a,b);row1,2times3;ask q where a=1by b back;",
            "\n \n table\n(\na\n,\nb\n)\n;\nrow\n1\n,\n2\ntimes\n3\n;ask\nq\nwhere\na\n=\n1\nby\nb\nback\n;\n\n  ",
            "  table  (  a  ,  b  )  ;  row  1  ,  2  times  3  ;  ask  q  where  a  =  1  by  b  back  ;",
        ):
            self.assertEqual(form_of(text), form, text)

    def test_a_blank_parts_words_and_numbers(self):
        self.assertEqual(load_answer("ta ble (a);"), [1, 2, 0])
        self.assertEqual(load_answer("table (a b);"), [1, 2, 9])
        self.assertEqual(load_answer("table (a); row 1 times 1 0;"), [1, 2, 25])
        self.assertEqual(load_answer("table (a, b); row 12 times 3;"), [1, 3, 18])

    def test_words_of_7_and_8_letters(self):
        self.assertEqual(load_answer("table (abcdefg);"), [0, 1, 0, 0, 0])
        self.fault_1("table (^abcdefgh);")
        self.fault_1("table (^aaaaaaaaaaaaaaaaaaaaaaaaaaaaaa);")
        self.fault_1("table (a); ^tabletable")
        self.assertEqual(load_answer("table (a); ask abcdefg; index abcdefg on a;"), [0, 1, 0, 1, 1])
        self.fault_1("table (a); ask ^abcdefgh;")

    def test_a_digit_ends_a_word_and_a_letter_a_number(self):
        self.assertEqual(load_answer("table (abcdefg1);"), [1, 2, 14])
        self.assertEqual(load_answer("table (a); row 1times1000000;"), [0, 1, 1, 0, 0])
        self.assertEqual(load_answer("table (a); row 1 times 1000000a;"), [1, 2, 30])

    def test_numbers_of_7_and_8_digits(self):
        self.assertEqual(load_answer("table (a); row 1 times 1000000;"), [0, 1, 1, 0, 0])
        self.assertEqual(load_answer("table (a); row 1 times 9999999;"), [1, 3, 23])
        self.fault_1("table (a); row 1 times ^10000000;")
        self.fault_1("table (a); row ^12345678 times 1;")

    def test_a_0_in_front(self):
        self.assertEqual(load_answer("table (a); row 0 times 1; row 1 times 10;"), [0, 1, 2, 0, 0])
        self.fault_1("table (a); row ^00 times 1;")
        self.fault_1("table (a); row ^01 times 1;")
        self.fault_1("table (a); row 1 times ^010;")
        self.fault_1("table (a); row 1 times ^0000001;")
        self.fault_1("table (a); row 1 times ^00000001;")
        self.assertEqual(load_answer("table (a); row 0 0 times 1;"), [1, 2, 17])

    def test_what_is_no_token(self):
        for sign in "A_-+.:\"'[]{}<>\t\r\0\x7f\x80\xff":
            self.fault_1(f"table (^{sign});")
            self.fault_1(f"^{sign}table (a);")
            self.fault_1(f"table (a^{sign});")
            self.fault_1(f"table (a); ^{sign}")

    def test_of_several_the_first_counts(self):
        self.fault_1("table (^A, abcdefgh, 01);")
        self.fault_1("table (a, ^abcdefgh, A, 01);")
        self.fault_1("table (a, ^01, A, abcdefgh);")
        self.fault_1("table (a); row ^123456789A")

    def test_it_counts_ahead_of_all_others(self):
        self.fault_1("row ^A")
        self.fault_1(") table (a); row 10 times 0 ^?")
        self.fault_1("table (a); row 10 times 1; ask ^abcdefgh;")
        self.fault_1("table (a, a); row 1 times ^01;")
        self.fault_1("table (a, b, c, d, e); ^!")
        self.fault_1("table (a); ask q by x; ask q; ^-")


if __name__ == "__main__":
    unittest.main()
