import copy
import unittest

from samples import BARE, FULL, PAIR, ROUND, WRONG_NETS, odd_things, some_nets
from tokenwall.errors import NoNet, NoText
from tokenwall.nets import checked
from tokenwall.texts import read, shown

WRITTEN = "2 ; 1 0 > 0 1 ; 0 2 > 3 0"

# Every sign of these takes part in the looks at texts with one sign more, less or changed.
SIGNS = ("0123456789 ;>+-.,:_<|x\n\t\r\v\f\0\x1c\x85\xa0\u2003\u3000\u0660\u0661\u06f2\u0967\uff10\uff11\xb2"
         "\u2460\u2212\ud800")


class Shown(unittest.TestCase):
    def test_samples(self):
        self.assertEqual(shown(PAIR), WRITTEN)
        self.assertEqual(shown((1, (((0,), (9,)),))), "1 ; 0 > 9")
        self.assertEqual(shown((3, (((1, 2, 3), (4, 5, 6)), ((7, 8, 9), (0, 0, 0))))),
                         "3 ; 1 2 3 > 4 5 6 ; 7 8 9 > 0 0 0")

    def test_nets_without_moves(self):
        for places in range(1, 7):
            self.assertEqual(shown((places, ())), str(places))

    def test_six_places_and_ten_moves(self):
        self.assertEqual(shown(FULL), "6" + " ; 9 0 0 0 0 0 > 0 9 0 0 0 0" * 10)

    def test_moves_that_take_or_give_nothing(self):
        self.assertEqual(shown((2, (((0, 0), (0, 0)), ((0, 0), (0, 1)), ((1, 0), (0, 0))))),
                         "2 ; 0 0 > 0 0 ; 0 0 > 0 1 ; 1 0 > 0 0")

    def test_it_is_a_text(self):
        self.assertIs(shown(PAIR).__class__, str)

    def test_no_net(self):
        for thing in WRONG_NETS + odd_things():
            with self.assertRaises(NoNet):
                shown(thing)

    def test_nothing_is_changed_and_equal_nets_give_equal_texts(self):
        net = copy.deepcopy(PAIR)
        self.assertEqual(shown(net), shown(PAIR))
        self.assertEqual(net, PAIR)


class Read(unittest.TestCase):
    def refused(self, thing):
        with self.assertRaises(NoText, msg=repr(thing)):
            read(thing)

    def test_samples(self):
        self.assertEqual(read(WRITTEN), PAIR)
        self.assertEqual(read("1 ; 0 > 9"), (1, (((0,), (9,)),)))
        self.assertEqual(read("3 ; 1 2 3 > 4 5 6 ; 7 8 9 > 0 0 0"),
                         (3, (((1, 2, 3), (4, 5, 6)), ((7, 8, 9), (0, 0, 0)))))

    def test_nets_without_moves(self):
        for places in range(1, 7):
            self.assertEqual(read(str(places)), (places, ()))

    def test_it_leads_from_shown_back_to_the_net(self):
        for net in [PAIR, BARE, FULL, ROUND, (6, ())] + some_nets(95, 300, 6, 10, 9):
            told = read(shown(net))
            self.assertEqual(told, net)
            self.assertEqual(checked(told), net)

    def test_equal_texts_give_equal_nets(self):
        self.assertEqual(read(WRITTEN), read("".join(list(WRITTEN))))

    def test_blanks_too_many(self):
        for text in (WRITTEN, "1", "1 ; 0 > 0"):
            for at in range(len(text) + 1):
                self.refused(text[:at] + " " + text[at:])
                self.refused(text[:at] + "  " + text[at:])

    def test_blanks_too_few(self):
        for text in (WRITTEN, "1 ; 0 > 0"):
            for at, sign in enumerate(text):
                if sign == " ":
                    self.refused(text[:at] + text[at + 1:])
        for text in ("2;1 0>0 1", "2 ;1 0 > 0 1", "2; 1 0 > 0 1", "2 ; 1 0> 0 1", "2 ; 1 0 >0 1", "2 ; 10 > 01"):
            self.refused(text)

    def test_noughts_ahead(self):
        for text in ("02", "02 ; 1 0 > 0 1", "2 ; 01 0 > 0 1", "2 ; 1 00 > 0 1", "2 ; 1 0 > 00 1", "2 ; 1 0 > 0 01",
                     "00", "002", "01"):
            self.refused(text)

    def test_signs_ahead(self):
        for text in ("+2", "-2", "+1", "-1", "2 ; +1 0 > 0 1", "2 ; 1 -0 > 0 1", "2 ; 1 +0 > 0 1", "2 ; -1 0 > 0 1",
                     "2 ; 1 0 > 0 +1", "2 ; + 1 0 > 0 1", "+ 2"):
            self.refused(text)

    def test_line_ends_and_tabs(self):
        for text in (WRITTEN, "1"):
            for sign in ("\n", "\t", "\r", "\r\n", "\v", "\f"):
                self.refused(text + sign)
                self.refused(sign + text)
                self.refused(text + " " + sign)
                for at in range(len(text)):
                    self.refused(text[:at] + sign + text[at:])
                    self.refused(text[:at] + sign + text[at + 1:])

    def test_too_many_or_too_few_numbers(self):
        for text in ("2 ; 1 > 0 1", "2 ; 1 0 > 0", "2 ; 1 0 0 > 0 1", "2 ; 1 0 > 0 1 0", "2 ; 1 > 0", "1 ; 0 0 > 0 0",
                     "2 ; 1 0 0 > 0 1 0", "2 ; > 0 1", "2 ; 1 0 >", "2 ;  > 0 1", "2 ; 1 0 > ", "2 ; >", "2 ;  > ",
                     "2 2", "2 1 0 > 0 1", "6 ; 0 0 0 0 0 > 0 0 0 0 0 0", "2 ; 1 0 0 > 1", "2 ; 1 > 1 0 0"):
            self.refused(text)

    def test_numbers_above_nine(self):
        for number in ("10", "11", "99", "100", "9" * 5000):
            for text in ("1 ; X > 0", "1 ; 0 > X", "2 ; 0 X > 0 0", "2 ; 0 0 > X 0", "X"):
                self.refused(text.replace("X", number))

    def test_places_are_one_to_six(self):
        for text in ("0", "7", "8", "9", "10", "16", "0 ; > ", "0 ;  > ", "0 ; 0 > 0", "-1",
                     "7 ; 0 0 0 0 0 0 0 > 0 0 0 0 0 0 0"):
            self.refused(text)

    def test_moves_are_at_most_ten(self):
        self.assertEqual(read("1" + " ; 0 > 1" * 10), (1, (((0,), (1,)),) * 10))
        self.refused("1" + " ; 0 > 1" * 11)
        self.refused("1" + " ; 0 > 1" * 500)

    def test_empty_texts(self):
        for text in ("", " ", "  ", "\n", " ; ", ";", ">", " > "):
            self.refused(text)

    def test_signs_between(self):
        for text in ("2 ;", "2 ; ", " ; 1 0 > 0 1", "; 1 0 > 0 1", "2 ; ; 1 0 > 0 1", "2 ; 1 0 > 0 1 ;",
                     "2 ; 1 0 > 0 1 ; ", "2 ; 1 0 > 0 1 ; ; 0 2 > 3 0", "2 ; 1 0 > > 0 1", "2 ; 1 0 >  > 0 1",
                     "2 ; 1 0 > 0 1 >", "2 ; 1 0 > 0 1 > ", "2 ; 1 0 > 0 1 > 0 0", "2 ; > 1 0 > 0 1", "2 ; 1 0 0 1",
                     "2 ; 1 0 ; 0 1", "2 > 1 0 > 0 1", "2 > 1 0 ; 0 1", "2 1 0 > 0 1", "2 ; 1 0 > 0 1 0 2 > 3 0",
                     "2 ; 1 0 > 0 1 > 0 2 ; 3 0", "2 ; 1 > 0 > 0 1", "2 ; 1 ; 0 > 0 1", "1 ; 0", "1 ; 0 > 0 ; 0"):
            self.refused(text)

    def test_other_signs_and_words(self):
        for text in ("two", "x", "2.", "2.0", "2,", "2 ; a 0 > 0 1", "2 ; 1 0 < 0 1", "2 : 1 0 > 0 1", "2 ; 1 0 => 0 1",
                     "2 ; 1 0 -> 0 1", "2 ; 1,0 > 0,1", "2 ; 1_0 > 0 1", "1_", "0x1", "1e0", "(2, ())", "2 # net",
                     "None", "2 ; 1 0 > 0 1 .", "2\0", "\ufeff2"):
            self.refused(text)

    def test_figures_that_are_not_plain(self):
        for figure in ("\u0661", "\u06f1", "\u0967", "\uff11", "\xb9", "\u2460", "\u2081", "\u2160", "\u4e00",
                       "\U0001d7cf", "\xbd"):
            for text in ("X", "1 ; X > 0", "1 ; 0 > X", "2 ; 1 X > 0 0", "1X", "X1"):
                self.refused(text.replace("X", figure))

    def test_blanks_that_are_not_plain(self):
        for blank in ("\xa0", "\u2003", "\u3000", "\u2009", "\x85", "\x1c", "\x1f", "\u200b"):
            self.refused(WRITTEN.replace(" ", blank))
            self.refused(WRITTEN.replace(" ", blank, 1))
            self.refused(WRITTEN + blank)
            self.refused(blank + "1")

    def test_what_is_no_text(self):
        for thing in odd_things() + [None, 0, 1, 2, ["1"], ("1",), [WRITTEN], list(WRITTEN), {"1": "1"}, b"1",
                                     bytearray(b"1"), WRITTEN.encode(), PAIR, BARE, iter("1")]:
            if thing.__class__ is not str or thing != "1":
                self.refused(thing)

    def test_one_sign_more_less_or_changed(self):
        for text in (WRITTEN, "1", "1 ; 0 > 9", "6" + " ; 1 2 3 4 5 6 > 0 0 0 0 0 9" * 2):
            for at in range(len(text) + 1):
                self.weigh(text[:at] + text[at + 1:])
                for sign in SIGNS:
                    self.weigh(text[:at] + sign + text[at:])
                    self.weigh(text[:at] + sign + text[at + 1:])

    def weigh(self, text):
        """Whatever is read is written just as it was read."""
        try:
            net = read(text)
        except NoText:
            return
        self.assertEqual(shown(checked(net)), text)

    def test_texts_that_are_long(self):
        self.refused("1 " * 100000)
        self.refused("1" * 100000)
        self.refused(" ; " * 100000)
        self.refused("1" + " ; 0 > 0" * 50000)


if __name__ == "__main__":
    unittest.main()
