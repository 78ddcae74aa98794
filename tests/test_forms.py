"""Promise [5]: forms."""

import unittest

from ringsums.errors import InvalidForm, InvalidText
from ringsums.forms import Form
from samples import ErrorChecks, any_values

TEXTS = {
    "0": (0, 0, 1), "5": (0, 5, 1), "-5": (0, -5, 1), "n": (1, 0, 1), "-n": (-1, 0, 1), "2n": (2, 0, 1),
    "-3n": (-3, 0, 1), "n+4": (1, 4, 1), "n-4": (1, -4, 1), "-n+1": (-1, 1, 1), "-n-1": (-1, -1, 1),
    "10n-12": (10, -12, 1), "(n+1)/2": (1, 1, 2), "(n)/2": (1, 0, 2), "(0)/3": (0, 0, 3), "(-7)/10": (0, -7, 10),
    "(-2n-1)/3": (-2, -1, 3), "999999999n-999999999": (999999999, -999999999, 1), "(1)/999999999": (0, 1, 999999999),
}

NO_TEXTS = [
    "", " ", "1n", "-1n", "0n", "-0n", "n+0", "n-0", "+3", "+n", "-0", "00", "03", "n+03", "02n", "n4", "nn", "n+n",
    "n+", "n-", "n++1", "n+-1", "n--1", "--1", "--n", "-", "+", "N", "n ", " n", "n + 1", "n\n", "\nn", "n*2", "2*n",
    "(n)", "(n)/1", "(n)/0", "(n)/-2", "(n)/02", "(n)/+2", "(n)/", "(n)/n", "(n/2", "n)/2", "n/2", "()/2", "(1n)/2",
    "(n+0)/2", "((n)/2)/2", "(n)/2/2", "(n)/2 ", "(n)//2", "( n)/2", "(+3)/2", "4/2", "1.0", "1_0", "n+1_0", "x",
    "none", "n.", "4+n", "4-n", "(4+n)/2", "n+1+1", "2n3", "\u0662", "\u00b2", "n+\u0662",
]


class TestForms(unittest.TestCase, ErrorChecks):
    def test_attributes(self):
        form = Form(3, -4, 5)
        self.assertEqual((form.times, form.plus, form.by), (3, -4, 5))

    def test_defaults(self):
        form = Form()
        self.assertEqual((form.times, form.plus, form.by), (0, 0, 1))
        self.assertEqual((Form(2).plus, Form(2).by, Form(2, 3).by), (0, 1, 1))

    def test_by_names(self):
        form = Form(by=2, plus=1, times=3)
        self.assertEqual(str(form), "(3n+1)/2")
        self.assertEqual(form(n=3), 5)
        self.assertEqual(Form.read(text="(3n+1)/2"), form)

    def test_values_are_rounded_down(self):
        self.assertEqual([Form(1, 0, 2)(n) for n in (-3, -2, -1, 0, 1, 2, 3)], [-2, -1, -1, 0, 0, 1, 1])
        self.assertEqual([Form(-1, 1, 3)(n) for n in (0, 1, 2, 3, 4, 5)], [0, 0, -1, -1, -1, -2])
        self.assertEqual((Form(2, -3)(10), Form(0, -5)(100), Form(0, 7, 2)(0)), (17, -5, 3))

    def test_great_numbers(self):
        self.assertEqual(Form(3, 1, 2)(10 ** 40), (3 * 10 ** 40 + 1) // 2)
        self.assertEqual(Form(-3, 1, 2)(10 ** 40 + 1), (-3 * 10 ** 40 - 2) // 2)

    def test_wrong_arguments(self):
        wrong = [value for value in any_values() if not isinstance(value, int) or isinstance(value, bool)]
        for value in wrong:
            self.check_word(InvalidForm, "times", Form, value)
            self.check_word(InvalidForm, "plus", Form, 1, value)
            self.check_word(InvalidForm, "by", Form, 1, 1, value)
        for value in (0, -1, -10 ** 9):
            self.check_word(InvalidForm, "by", Form, 1, 1, value)

    def test_the_first_wrong_argument_is_named(self):
        self.check_word(InvalidForm, "times", Form, True, None, 0)
        self.check_word(InvalidForm, "times", Form, None, 1, False)
        self.check_word(InvalidForm, "plus", Form, 1, False, 0)
        self.check_word(InvalidForm, "times", Form, by=0, plus="", times="n")
        self.check_word(InvalidForm, "by", Form, by=True)

    def test_texts(self):
        for text, parts in TEXTS.items():
            self.assertEqual(str(Form(*parts)), text)

    def test_read(self):
        for text, parts in TEXTS.items():
            form = Form.read(text)
            self.assertEqual((form.times, form.plus, form.by), parts, text)
            self.assertEqual(str(form), text)

    def test_read_is_the_way_back(self):
        for times in range(-3, 4):
            for plus in range(-3, 4):
                for by in range(1, 4):
                    form = Form(times, plus, by)
                    back = Form.read(str(form))
                    self.assertEqual((back.times, back.plus, back.by), (times, plus, by))

    def test_near_texts_are_none(self):
        for text in NO_TEXTS:
            self.check_at(InvalidText, 0, Form.read, text)

    def test_equal_if_the_texts_are(self):
        forms = [Form(times, plus, by) for times in (-1, 0, 1) for plus in (-1, 0, 2) for by in (1, 2)]
        for one in forms:
            for other in forms:
                self.assertEqual(one == other, str(one) == str(other))
                self.assertEqual(one != other, str(one) != str(other))
        self.assertEqual(Form(2, 2, 2), Form(2, 2, 2))
        self.assertNotEqual(Form(2, 2, 2), Form(1, 1, 1))

    def test_equal_to_nothing_else(self):
        for value in any_values():
            if not isinstance(value, Form):
                self.assertFalse(Form() == value)
                self.assertTrue(Form() != value)


if __name__ == "__main__":
    unittest.main()
