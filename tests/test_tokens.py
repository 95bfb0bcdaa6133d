"""Codes 1 and 2: a text's size, and how it is taken apart into tokens."""

import unittest

from tests.helper import TILL, as_bytes, loaded, marked, script

LETTERS = "ABCDEFGHIJKLMNOPQRSTUVWXYZabcdefghijklmnopqrstuvwxyz"
FULL_NAME = "Abcdefghijklmn16"


def with_range(words):
    return script("S = A -> B { m(%s) E } E = end" % words)


class TextSize(unittest.TestCase):
    def test_4096_bytes_are_allowed(self):
        text = TILL + " " * (4096 - len(TILL))
        self.assertEqual(len(text), 4096)
        self.assertEqual(loaded(text), [1])

    def test_one_byte_more_is_code_1(self):
        self.assertEqual(loaded(TILL + " " * (4097 - len(TILL))), [0, 1, 4096])
        self.assertEqual(loaded("x" * 8192), [0, 1, 4096])

    def test_code_1_comes_before_code_2(self):
        self.assertEqual(loaded("@" + " " * 4096), [0, 1, 4096])
        self.assertEqual(loaded("@" + " " * 4095), [0, 2, 0])
        self.assertEqual(loaded(" " * 4096 + "@"), [0, 1, 4096])

    def test_texts_without_a_token(self):
        self.assertEqual(loaded(""), [0, 3, 0])
        self.assertEqual(loaded(" \t\n"), [0, 3, 3])
        self.assertEqual(loaded("# x"), [0, 3, 3])
        self.assertEqual(loaded(" " * 4096), [0, 3, 4096])


class SingleBytes(unittest.TestCase):
    def test_which_bytes_begin_a_token(self):
        singles = as_bytes("={}()[],;:!?|" + LETTERS + "0123456789")
        blanks = [32, 9, 10]
        for byte in range(256):
            if byte in blanks or byte == ord("#"):
                asked = [0, 3, 1]
            elif byte in singles:
                asked = [0, 3, 0]
            else:
                asked = [0, 2, 0]
            self.assertEqual(loaded([byte]), asked, byte)

    def test_no_other_byte_is_a_blank(self):
        for byte in (0, 11, 12, 13, 28, 31, 37, 95, 126, 127, 133, 160, 255):
            text = as_bytes("script T ") + [byte] + as_bytes(" parties")
            self.assertEqual(loaded(text), [0, 2, 9], byte)

    def test_a_remark_ends_at_byte_10_alone(self):
        for byte in (0, 13, 34, 35, 37, 64, 92, 200, 255):
            text = as_bytes("script T #") + [byte] + as_bytes(" @ \n parties @")
            self.assertEqual(loaded(text), [0, 2, len(text) - 1], byte)
        self.assertEqual(loaded("script T # @ @ @"), [0, 3, 16])

    def test_a_remark_may_follow_a_token_at_once(self):
        self.assertEqual(loaded("script T#x\nparties A#\nstart S#\nS=end#"), [1])
        text, place = marked("script T#x\nparties A start S S=e#\n^nd")
        self.assertEqual(loaded(text), [0, 3, place])


class Names(unittest.TestCase):
    def test_16_bytes_are_allowed_and_17_are_not(self):
        self.assertEqual(len(FULL_NAME), 16)
        self.assertEqual(loaded("script %s parties A start S S = end" % FULL_NAME), [1])
        self.assertEqual(loaded("script %sx parties A start S S = end" % FULL_NAME), [0, 2, 7])
        self.assertEqual(loaded("script %s7 parties A start S S = end" % FULL_NAME), [0, 2, 7])
        self.assertEqual(loaded("script T parties A start S S = end partiespartiesxyz"), [0, 2, 35])

    def test_a_name_takes_all_letters_and_digits(self):
        self.assertEqual(loaded("script T0z9 parties A1 A2 start s1 s1=A1->A2{m()s2}s2=end"), [1])
        self.assertEqual(loaded("scriptT parties"), [0, 3, 0])
        self.assertEqual(loaded("script T parties A start S S=end1"), [0, 3, 33])

    def test_a_name_ends_at_any_other_sign(self):
        self.assertEqual(loaded("script a1-2"), [0, 3, 9])
        self.assertEqual(loaded("script a_b"), [0, 2, 8])
        self.assertEqual(loaded("script a%b"), [0, 2, 8])

    def test_great_and_small_letters_are_unlike(self):
        self.assertEqual(loaded("script End parties Of start Both Both = end"), [1])
        self.assertEqual(loaded("Script T"), [0, 3, 0])
        self.assertEqual(loaded("script T parties A a start S S = A -> a { m() s ; M() S } s = end"), [1])


class Numbers(unittest.TestCase):
    def test_numbers_that_are_tokens(self):
        for low, high in (
            ("0", "0"), ("-1", "0"), ("1", "10"), ("-1000000000", "1000000000"), ("999999999", "1000000000"),
            ("-1000000000", "-999999999"), ("-10", "-9"), ("100", "100"),
        ):
            self.assertEqual(loaded(with_range("num %s %s" % (low, high))), [1], (low, high))

    def test_numbers_that_are_none(self):
        for number in (
            "00", "07", "000", "-0", "-00", "-07", "01", "-01", "1000000001", "-1000000001", "2000000000",
            "9999999999", "10000000000", "-10000000000", "00000000001", "0" * 40, "9" * 1500,
        ):
            text, place = marked(with_range("num 1 ^%s" % number))
            self.assertEqual(loaded(text), [0, 2, place], number)
            text, place = marked(with_range("num ^%s 1" % number))
            self.assertEqual(loaded(text), [0, 2, place], number)

    def test_a_number_ends_where_its_digits_end(self):
        for text in (
            "script ^12ab", "script ^12 ab", "script ^0ab", "script ^-2ab", "script ^1->", "script ^1-2",
        ):
            text, place = marked(text)
            self.assertEqual(loaded(text), [0, 3, place], text)
        text, place = marked(with_range("num 1^ab 9"))
        self.assertEqual(loaded(text), [0, 3, place])
        text, place = marked(with_range("num 1^-2"))
        self.assertEqual(loaded(text), [0, 7, place])
        self.assertEqual(loaded(with_range("num-2-1")), [1])
        self.assertEqual(loaded(with_range("num-2 1")), [1])

    def test_a_0_in_front_of_a_letter_is_a_number(self):
        self.assertEqual(loaded("0x"), [0, 3, 0])
        self.assertEqual(loaded("0 0x07"), [0, 3, 0])
        self.assertEqual(loaded("0 07x"), [0, 2, 2])


class Arrows(unittest.TestCase):
    def test_both_arrows_are_tokens(self):
        self.assertEqual(loaded("->"), [0, 3, 0])
        self.assertEqual(loaded("<-"), [0, 3, 0])
        self.assertEqual(loaded("->-><-<-->"), [0, 3, 0])
        text, place = marked(script("S = A ^<- B { m() E } E = end"))
        self.assertEqual(loaded(text), [0, 3, place])

    def test_half_an_arrow_is_none(self):
        for text in (
            "^-", "^- >", "^- 1", "^-a", "^--1", "a ^-", "^<", "^< -", "^<<-", "^<>", "^<1", "^>", "-> ^>", "<-^-",
            "script T =^>", "->^>", "1^-", "1^-a", "-1^-",
        ):
            text, place = marked(text)
            self.assertEqual(loaded(text), [0, 2, place], text)

    def test_back_arrow_then_number(self):
        self.assertEqual(loaded("<-1 @"), [0, 2, 4])
        self.assertEqual(loaded("<--1 @"), [0, 2, 5])


class QuotedTexts(unittest.TestCase):
    def is_token(self, quoted):
        # A token that the grammar never allows: code 3 at its place, and the next one is looked at.
        row = as_bytes(quoted)
        self.assertEqual(loaded(as_bytes("\t") + row), [0, 3, 1], quoted)
        self.assertEqual(loaded(row + as_bytes("@")), [0, 2, len(row)], quoted)

    def is_none(self, quoted):
        self.assertEqual(loaded(as_bytes("script T ") + as_bytes(quoted)), [0, 2, 9], quoted)

    def test_quoted_texts_that_are_tokens(self):
        for quoted in (
            '""', '"a"', '"a b"', '"#"', '"@~%_"', '"\t"', r'"\""', r'"\\"', r'"\n"', r'"\x00"', r'"\xff"',
            r'"\x9a"', r'"\x123"', r'"\\n"', r'"\\\""', r'"\\x"', "\"'\"", r'"\n\n"',
        ):
            self.is_token(quoted)

    def test_any_byte_but_three_may_stand_in_it(self):
        for byte in range(256):
            quoted = [34, byte, 34]
            if byte in (10, 92):
                self.is_none(quoted)
            elif byte != 34:
                self.is_token(quoted)
        self.assertEqual(loaded('"""'), [0, 2, 2])

    def test_quoted_texts_that_are_none(self):
        for quoted in (
            '"', '"a', '"a\n"', '"\n', r'"\"', '"\\', r'"\t"', r'"\N"', r'"\X00"', r'"\x0"', r'"\x"', r'"\x',
            r'"\x0', r'"\xFF"', r'"\xfF"', r'"\xg0"', r'"\x0g"', r'"\x 0"', r'"\x-1"', r'"\ "', r'"\a"', r'"\0"',
            r'"\\\"', r'"\r"', '"\\\n"', r'"\x\""', '"\\\'"',
        ):
            self.is_none(quoted)

    def test_at_most_255_bytes_are_told(self):
        for piece in ("a", " ", r'\"', r'\\', r'\n', r'\x41'):
            self.is_token('"' + piece * 255 + '"')
            self.is_none('"' + piece * 256 + '"')
        self.is_token('"' + r"\x41" * 100 + "b" * 155 + '"')
        self.is_none('"' + r"\x41" * 100 + "b" * 156 + '"')

    def test_no_quoted_text_stands_in_a_script(self):
        text, place = marked(script('S = A -> B { m(text ^"9") E } E = end'))
        self.assertEqual(loaded(text), [0, 3, place])


class FirstPlace(unittest.TestCase):
    def test_the_first_place_without_a_token_is_told(self):
        self.assertEqual(loaded("a @ $"), [0, 2, 2])
        self.assertEqual(loaded('a 07 "'), [0, 2, 2])
        self.assertEqual(loaded('a " 07'), [0, 2, 2])
        self.assertEqual(loaded("a # @\n $"), [0, 2, 7])

    def test_the_whole_text_is_taken_apart_first(self):
        self.assertEqual(loaded("end end end = = 07"), [0, 2, 16])
        text, place = marked(TILL.replace("Buyer Shop", "Buyer Buyer") + "^$")
        self.assertEqual(loaded(text), [0, 2, place])
        text, place = marked(with_range("num 9 1") + "^.")
        self.assertEqual(loaded(text), [0, 2, place])


if __name__ == "__main__":
    unittest.main()
