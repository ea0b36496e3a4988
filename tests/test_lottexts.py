"""[1.11]: texts of lots, weavings and facts."""

from itertools import product
import random
import unittest

from helper import OTHER_KINDS, GuardCase, all_facts, blind_lot, made_up_lots
from knownguards.errors import BadFact, BadText, BadWeaving
from knownguards.lots import Lot
from knownguards.lottexts import fact_of_text, fact_text, lot_of_text, lot_text, weaving_of_text, weaving_text
from knownguards.weavings import all_weavings

EXAMPLE = "2: kept 0; any 0 by 0 as 5 | any 0 as 1; adds 1 by 0 as 2"
# signs that Python takes for digits, but that are not 0 to 9
OTHER_DIGITS = ("\u0661", "\u00b2", "\u0967", "\uff11", "\u2460", "\u00bd", "\U0001d7cf")
NO_STRINGS = (*[thing for thing in OTHER_KINDS if not isinstance(thing, str)], 0, (), [], ["0"], ("kept", 0, 0))


def altered_texts(rng, text, many):
    """Texts with one sign more, one less, another one, or two exchanged."""
    signs = "0123456789 :;|abdekpnsty-+\n\t.,_" + "".join(OTHER_DIGITS)
    altered = []
    for _ in range(many):
        at = rng.randrange(len(text) + 1)
        sign = rng.choice(signs)
        ways = (text[:at] + sign + text[at:], text[:at] + text[at + 1:], text[:at] + sign + text[at + 1:],
                text[:at] + text[at + 1:at + 2] + text[at:at + 1] + text[at + 2:])
        altered.append(rng.choice(ways))
    return altered


class LotTextTest(GuardCase):
    def bad(self, text):
        with self.subTest(repr(text)[:200]):
            self.refuses(BadText, {}, lot_of_text, text)

    def test_the_example(self):
        lot = Lot(2, (
            ((0, "kept", (), -1), (0, "any", (0,), 5)),
            ((0, "any", (), 1), (1, "adds", (0,), 2)),
        ))
        self.assertEqual(lot_text(lot), EXAMPLE)
        self.assertEqual(lot_of_text(EXAMPLE), lot)

    def test_ordinary_texts(self):
        for text, lot in (
            ("1: any 0 as 0", Lot(1, [[(0, "any", (), 0)]])),
            ("3: kept 2", Lot(3, [[(2, "kept", (), -1)]])),
            ("1: any 0 by 0 as 99", Lot(1, [[(0, "any", (0,), 99)]])),
            ("2: kept 0; kept 1; adds 1 by 0 1 as 10; any 0 by 0 1 3 as 9 | any 1 by 0 as 7 | kept 1", Lot(2, [
                [(0, "kept", (), -1), (1, "kept", (), -1), (1, "adds", (0, 1), 10), (0, "any", (0, 1, 3), 9)],
                [(1, "any", (0,), 7)],
                [(1, "kept", (), -1)],
            ])),
        ):
            self.assertEqual(lot_text(lot), text)
            self.assertEqual(lot_of_text(text), lot)

    def test_there_and_back(self):
        for lot in made_up_lots(500, "texts"):
            self.assertEqual(lot_of_text(lot_text(lot)), lot)

    def test_no_strings(self):
        for thing in (*NO_STRINGS, EXAMPLE.encode(), Lot(1, [[(0, "any", (), 0)]])):
            self.bad(thing)

    def test_texts_that_are_nearly_right(self):
        for text in (
            "", " ", ":", ": ", "1", "1:", "1: ", "1:any 0 as 0", "1 : any 0 as 0", " 1: any 0 as 0", "1: any 0 as 0 ",
            "1: any 0 as 0\n", "1:  any 0 as 0", "1: any  0 as 0", "1: any 0  as 0", "1: any 0 as  0", "1: any 0 as",
            "1: any 0 as ", "1: any 0", "1: any 0 by as 0", "1: any 0 by  as 0", "1: any 0 by 0  as 0", "1: any as 0",
            "1: any 0 by 0", "1: kept 0 as 0", "1: kept 0 as -1", "1: kept 0 by 0", "1: kept 0 by ", "1: kept 0; ",
            "1: kept 0;kept 0", "1: kept 0 ; kept 0", "1: kept 0;  kept 0", "1: kept 0 |kept 0", "1: kept 0|kept 0",
            "1: kept 0 | ", "1: | kept 0", " | ", "1: kept 0 |  | kept 0", "1: kept 0 || kept 0", "1: ; kept 0",
            "1: kept", "1: kept ", "1: Kept 0", "1: any 0 as 0 as 0", "1: any 0 by 0 by 0 as 0", "1: any 0 as 0 by 0",
            "1: kept 0: kept 0", "1: 1: kept 0", "any 0 as 0", "one: kept 0", "1; kept 0", "1: put 0 as 0",
        ):
            self.bad(text)

    def test_numbers_are_told_in_one_way_alone(self):
        for number in ("00", "01", "+0", "-0", "0.0", "0_0", " 0", "0 ", "0x0", "\t0", "-1", "", "zero", "None"):
            for text in ("{}: any 0 by 0 as 0", "1: any {} by 0 as 0", "1: any 0 by {} as 0", "1: any 0 by 0 as {}"):
                self.bad(text.replace("{}", number))
        for number in ("01", "+1", "1_0", "010", "1e0", "1.0", *OTHER_DIGITS, *["1" + sign for sign in OTHER_DIGITS]):
            for text in ("{}: any 0 by 0 as 0", "2: any {} by 0 as 0", "2: kept 0; any 0 by {} as 0",
                         "1: any 0 by 0 as {}"):
                self.bad(text.replace("{}", number))

    def test_numbers_of_any_length(self):
        for number in ("100", "999", "1" * 1000, "9" * 5000, "0" * 5000, "1" + "0" * 20000):
            for text in ("{}: any 0 by 0 as 0", "1: any {} by 0 as 0", "1: any 0 by {} as 0", "1: any 0 by 0 as {}"):
                self.bad(text.replace("{}", number))

    def test_lots_that_are_refused(self):
        for text in (
            "0: kept 0", "4: kept 0", "1: kept 1", "1: any 0 by 1 as 0", "1: any 0 by 0 0 as 0",
            "1: kept 0; any 0 by 1 0 as 0", "1: adds 0 by 0 as 1", "1: adds 0 as 1; any 0 by 0 as 2",
            "1: any 0 as 1; any 0 by 0 as 1", "1: any 0 as 1 | adds 0 as 1", "1: any 0 as 100",
            "1: " + "; ".join(["kept 0"] * 5), "1: " + " | ".join(["kept 0"] * 4),
            "1: kept 0; kept 0; kept 0; kept 0 | kept 0; kept 0; kept 0; kept 0",
            "1: " + " | ".join(["kept 0"] * 10000),
        ):
            self.bad(text)

    def test_altered_texts_are_refused_or_are_exact_texts(self):
        rng = random.Random("altered")
        kept = 0
        for lot in made_up_lots(100, "altered"):
            for text in altered_texts(rng, lot_text(lot), 40):
                try:
                    self.assertEqual(lot_text(lot_of_text(text)), text)
                    kept += 1
                except BadText:
                    pass
        self.assertGreater(kept, 50)


class WeavingTextTest(GuardCase):
    def test_there_and_back(self):
        lot = blind_lot(2, 1, 2)
        self.assertEqual(weaving_text(lot, (2, 0, 1, 2, 0)), "2 0 1 2 0")
        self.assertEqual(weaving_text(lot, [2, 0, 1, 2, 0]), "2 0 1 2 0")
        for weaving in all_weavings(lot):
            self.assertEqual(weaving_of_text(lot, weaving_text(lot, weaving)), weaving)
        self.assertEqual(weaving_text(blind_lot(1), (0,)), "0")
        self.assertEqual(weaving_of_text(blind_lot(1), "0"), (0,))

    def test_exactly_the_texts_of_all_weavings_are_taken(self):
        lot = blind_lot(2, 1)
        texts = [weaving_text(lot, weaving) for weaving in all_weavings(lot)]
        for length in range(6):
            for signs in product("012 ", repeat=length):
                text = "".join(signs)
                if text in texts:
                    self.assertEqual(weaving_text(lot, weaving_of_text(lot, text)), text)
                else:
                    self.refuses(BadText, {}, weaving_of_text, lot, text)

    def test_bad_texts(self):
        lot = blind_lot(2, 1)
        for text in (
            *NO_STRINGS, (0, 0, 1), b"0 0 1", "0 0 01", "0 0 +1", "0 -0 1", "0 0  1", " 0 0 1", "0 0 1 ", "0 0 1\n",
            "0,0,1", "0\t0 1", "001", "0 0 " + "1" * 5000, "0 0 " + "0" * 5000 + "1", "0 0", "0 0 1 1", "0 0 2",
            "0 0 3", "0 0 one", "0 0 True", *["0 0 " + sign for sign in OTHER_DIGITS],
        ):
            self.refuses(BadText, {}, weaving_of_text, lot, text)

    def test_bad_weavings(self):
        lot = blind_lot(2, 1)
        for weaving in (*OTHER_KINDS, (0, 0, 2), (0, 0, True), "0 0 1"):
            self.refuses(BadWeaving, {"what": "form"}, weaving_text, lot, weaving)
        self.refuses(BadWeaving, {"what": "length"}, weaving_text, lot, (0, 0))


class FactTextTest(GuardCase):
    lot = blind_lot(3, 1, 2)

    def test_ordinary_facts(self):
        for fact, text in (
            (("without", 0, 2, 1), "without 0 2 1"),
            (("kept", 1, 0), "kept 1 0"),
            (["adds", 2, 1], "adds 2 1"),
            (("same", 0, 1, 2, 0), "same 0 1 2 0"),
        ):
            self.assertEqual(fact_text(self.lot, fact), text)
            self.assertEqual(fact_of_text(self.lot, text), tuple(fact))

    def test_exactly_the_texts_of_all_facts_are_taken(self):
        texts = {fact_text(self.lot, fact): fact for fact in all_facts(self.lot)}
        self.assertEqual(len(texts), len(all_facts(self.lot)))
        for word in ("without", "kept", "adds", "same", "any", ""):
            for many in range(6):
                for numbers in product("0123"[:6 - many], repeat=many):
                    text = " ".join([word, *numbers])
                    if text in texts:
                        self.assertEqual(fact_of_text(self.lot, text), texts[text])
                    else:
                        self.refuses(BadText, {}, fact_of_text, self.lot, text)

    def test_texts_with_other_signs(self):
        rng = random.Random("fact texts")
        texts = [fact_text(self.lot, fact) for fact in all_facts(self.lot)]
        for text in texts:
            for altered in altered_texts(rng, text, 30):
                if altered in texts:
                    self.assertEqual(fact_text(self.lot, fact_of_text(self.lot, altered)), altered)
                else:
                    self.refuses(BadText, {}, fact_of_text, self.lot, altered)

    def test_bad_texts(self):
        for text in (
            *NO_STRINGS, b"kept 0 0", "", " ", "kept", "kept 0", "kept 0 0 0", "kept 0 00", "kept 0 -0", "kept +0 0",
            "kept  0 0", " kept 0 0", "kept 0 0 ", "kept 0 0\n", "Kept 0 0", "kept 0 3", "kept 3 0",
            "without 0 1 2", "same 0 1 0 0", "same 0 0 0 0", "kept 0 " + "0" * 5000, "kept 0 " + "1" * 5000,
            *["kept 0 " + sign for sign in OTHER_DIGITS],
        ):
            self.refuses(BadText, {}, fact_of_text, self.lot, text)

    def test_what_is_no_fact(self):
        for fact in (*OTHER_KINDS, (), "kept 0 0", ("kept", 0, 3), ("kept", 0, False), ("same", 1, 0, 0, 0)):
            self.refuses(BadFact, {"index": 0}, fact_text, self.lot, fact)


if __name__ == "__main__":
    unittest.main()
