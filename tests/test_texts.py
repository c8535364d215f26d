"""[11] to [13], [43], [44]"""

import random
import unittest

from racebooks.errors import BadOffer, BadSyntax, BadValue
from racebooks.races import Race
from racebooks.texts import parse, printed
from tests.helpers import ANY_VALUES, NO_SEQUENCES, Case, all_bets, all_races, listed, nested
from tests.reckoning import drawn_offers, drawn_race

WIN = (("top", 1, (0,)), (3, 2), "for")
# Each of the forms of an offer, and its word.
WORDS = (
    (WIN, "top1:0@3/2+"), ((("top", 1, (0,)), (3, 2), "against"), "top1:0@3/2-"),
    ((("top", 2, (0, 1)), (1, 1), "for"), "top2:0,1@1/1+"), ((("row", (1, 0)), (1, 1), "against"), "row:1,0@1/1-"),
    ((("top", 3, (0, 2, 3)), (1000, 999), "for"), "top3:0,2,3@1000/999+"),
    ((("row", (3, 1, 2)), (1, 1000), "for"), "row:3,1,2@1/1000+"), ((("row", (2,)), (1000, 1), "for"), "row:2@1000/1+"),
    ((("top", 3, (3,)), (7, 5), "against"), "top3:3@7/5-"))
RACES = (
    (Race(1), "race 1 level absent - cuts 0"), (Race(2), "race 2 level absent - cuts 0,0"),
    (Race(2, False), "race 2 unlike absent - cuts 0,0"), (Race(3, True, (1,)), "race 3 level absent 1 cuts 0,0,0"),
    (Race(4, False, (0, 2, 3), (90, 0, 10, 5)), "race 4 unlike absent 0,2,3 cuts 90,0,10,5"),
    (Race(1, True, (0,), (7,)), "race 1 level absent 0 cuts 7"))
# What is no number, in whatever place one is told.
NO_NUMBERS = ("", "00", "01", "0001", "12345", "10000", "00000", "-1", "+1", "1.0", "x", "O", "1x", "1 ", "(1)", "1e2",
              "one", "None", "True", "-", "1_0", "0x1", "1\t", "\u00b2", "\u0661", "1\u0661")
NO_OFFERS = ("", "top1:0", "top1:0@", "top1:0@3/2", "top1:0@+", "top1:0@/+", "top1:0@3+", "top1:0@3/+", "top1:0@/2+",
             "top1:0@3/2/1+", "top1:0@3/2*", "top1:0@3/2+-", "top1:0@3/2++", "top1:0@3/2+,", "top1:0@@3/2+",
             "top1:0@3/2@3/2+", "top1:@3/2+", "row:@3/2+", "top1@3/2+", "row@3/2+", "top1:0,@3/2+", "top1:,0@3/2+",
             "top1:0,,1@3/2+", "top:0@3/2+", "top1:0:1@3/2+", "top1::0@3/2+", "row1:0@3/2+", "rows:0@3/2+",
             "Row:0@3/2+", "TOP1:0@3/2+", "Top1:0@3/2+", "win1:0@3/2+", "1:0@3/2+", ":0@3/2+", "@3/2+", "+", "3/2+",
             "top1:0@3/2 +", "to1:0@3/2+", "xtop1:0@3/2+", "top1:0@+3/2", "top1:0@-3/2+", "top1:0@3\\2+",
             "top1:0;1@3/2+", "-", "race", "top1:0@3/2+top1:0@3/2+", "top1:0@3/2+,top1:0@3/2+", "(top1:0@3/2+)",
             "top1:0 @3/2+", "\ttop1:0@3/2+")
# Words of the form of which each tells no offer for a race of four runners.
NOT_FOR_FOUR = ("top1:4@3/2+", "row:0,4@3/2+", "top0:0@3/2+", "top4:0@3/2+", "top10:0@3/2+", "top9999:9999@9999/9999-",
                "top1:0,1@3/2+", "top2:1,0@3/2+", "top2:1,1@3/2+", "row:1,1@3/2+", "row:0,1,2,3@3/2+",
                "top3:0,1,2,3@3/2+", "top1:0@1/0+", "top1:0@0/1+", "top1:0@0/0-", "top1:0@6/4+", "top1:0@2/2-",
                "top1:0@1001/1+", "top1:0@1/1001-", "top1:0@9999/1+", "row:9999@1/1+")


class Printed(Case):
    def test_races(self):
        for race, line in RACES:
            self.assertEqual(printed(race), line + "\n")

    def test_offers(self):
        for offer, word in WORDS:
            self.assertEqual(printed((offer,)), word + "\n")
            self.assertEqual(printed(listed([offer])), word + "\n")
        for many in range(1, 9):
            told = WORDS[:many]
            self.assertEqual(printed([offer for offer, _ in told]), " ".join(word for _, word in told) + "\n")

    def test_wrong_values(self):
        wrong = ((), [], (WIN,) * 9, [WIN] * 10, WIN, (WIN, None), (None, WIN), (WIN,) * 7 + (WIN[:2],), ((WIN,),),
                 ((("top", 1, (4,)), (3, 2), "for"),), ((("top", 1, (0,)), (6, 4), "for"),),
                 ((("top", 1, (0,)), (1001, 1), "for"),), ((("top", 1, (0,)), (3, 2), "+"),), "race 1 level",
                 "top1:0@3/2+\n", (4, True, (), (0, 0, 0, 0)))
        for value in wrong + ANY_VALUES + NO_SEQUENCES + (nested(40), tuple(range(20000)), "a" * 60000):
            self.assert_raises_with(BadValue, 1, printed, value)
            self.assert_raises_with(BadValue, 1, printed, value=listed(value))

    def test_value_is_not_changed(self):
        value = listed([offer for offer, _ in WORDS])
        text = printed(value=value)
        self.assertEqual(value, listed([offer for offer, _ in WORDS]))
        value.clear()
        self.assertEqual(text, " ".join(word for _, word in WORDS) + "\n")


class Parse(Case):
    def test_races(self):
        for race, line in RACES:
            found = parse(line + "\n")
            self.assertIs(type(found), Race)
            self.assertEqual(found, race)
        self.assertIs(parse("race 2 level absent - cuts 0,0\n").ties, True)
        self.assertIs(parse("race 2 unlike absent - cuts 0,0\n").ties, False)

    def test_offers(self):
        for offer, word in WORDS:
            found = parse(text=word + "\n")
            self.assertEqual(found, (offer,))
            bet, odds, side = found[0]
            self.assert_plain((bet[1:], odds))
            self.assertIs(type(side), str)
        for many in range(1, 9):
            text = " ".join(word for _, word in WORDS[:many]) + "\n"
            self.assertEqual(parse(text), tuple(offer for offer, _ in WORDS[:many]))

    def test_what_is_no_string(self):
        for text in ANY_VALUES + NO_SEQUENCES + (["race 1 level absent - cuts 0\n"], ("top1:0@3/2+\n",), nested(40)):
            if not isinstance(text, str):
                self.assert_raises_with(BadValue, 1, parse, text)

    def test_lines(self):
        for line in ("race 2 level absent - cuts 0,0", "top1:0@3/2+", "top1:0@3/2+ row:1,0@1/1-"):
            parse(line + "\n")
            for text in (line, line + "\n\n", "\n" + line + "\n", line + "\n" + line + "\n", line + "\n" + line,
                         line + "\nx", line + "\r\n", " " + line + "\n", line + " \n", line + "\t\n",
                         line.replace(" ", "\n") + "\n\n", line + "\n "):
                self.assert_raises_with(BadSyntax, 0, parse, text)
        for text in ("", "\n", "\n\n", " ", " \n", "-\n", "a" * 60000, "\n" * 60000, "race", "race\n", "race \n"):
            self.assert_raises_with(BadSyntax, 0, parse, text)

    def test_words_of_a_race(self):
        words = "race 2 level absent 0 cuts 1,2".split(" ")
        self.assertEqual(parse(" ".join(words) + "\n"), Race(2, True, (0,), (1, 2)))
        for at in range(len(words)):
            for word in ("", "x", "Race", "RACE", "races", "Level", "even", "ties", "True", "absents", "cut", "Cuts",
                         "2 ", "level absent", "race race"):
                self.assert_raises_with(BadSyntax, 0, parse, " ".join(words[:at] + [word] + words[at + 1:]) + "\n")
            self.assert_raises_with(BadSyntax, 0, parse, " ".join(words[:at] + words[at + 1:]) + "\n")
            twice = words[:at] + words[at:at + 1] * 2 + words[at + 1:]
            self.assert_raises_with(BadSyntax, 0, parse, " ".join(twice) + "\n")
            self.assert_raises_with(BadSyntax, 0, parse, " ".join(words[:at]) + "  " + " ".join(words[at:]) + "\n")
        self.assert_raises_with(BadSyntax, 0, parse, "race 2 level cuts 1,2 absent 0\n")
        self.assert_raises_with(BadSyntax, 0, parse, "race 2 level absent 0 cuts 1,2 x\n")
        self.assert_raises_with(BadSyntax, 0, parse, "race 2 level absent 0 cuts 1,2 top1:0@3/2+\n")
        self.assert_raises_with(BadSyntax, 0, parse, "top1:0@3/2+ race 2 level absent 0 cuts 1,2\n")

    def test_numbers_of_a_race(self):
        for number in NO_NUMBERS:
            self.assert_raises_with(BadSyntax, 0, parse, f"race {number} level absent 0 cuts 1,2\n")
            self.assert_raises_with(BadSyntax, 0, parse, f"race 2 level absent 0 cuts {number}\n")
            for numbers in (f"0,{number}", f"{number},1", f"0,{number},1", "0;1", "0,", ",0", ","):
                self.assert_raises_with(BadSyntax, 0, parse, f"race 2 level absent {numbers} cuts 1,2\n")
                self.assert_raises_with(BadSyntax, 0, parse, f"race 2 level absent 0 cuts {numbers}\n")
            if number != "-":
                self.assert_raises_with(BadSyntax, 0, parse, f"race 2 level absent {number} cuts 1,2\n")

    def test_empty_lists(self):
        self.assertEqual(parse("race 1 level absent - cuts 90\n"), Race(1, True, (), (90,)))
        self.assert_raises_with(BadSyntax, 0, parse, "race 1 level absent - cuts -\n")
        self.assert_raises_with(BadSyntax, 0, parse, "race 1 level absent -,- cuts 0\n")
        self.assert_raises_with(BadSyntax, 0, parse, "race 1 level absent -- cuts 0\n")

    def test_errors_of_race(self):
        for told, at in (("0 level absent - cuts 0", 1), ("5 level absent - cuts 0", 1),
                         ("9999 unlike absent 9 cuts 1", 1),
                         ("0 level absent 1,0 cuts 91", 1), ("2 level absent 1,0 cuts 0,0", 3),
                         ("2 level absent 0,0 cuts 0,0", 3), ("2 level absent 2 cuts 0,0", 3),
                         ("2 level absent 9999 cuts 0,91", 3), ("2 level absent - cuts 0", 4),
                         ("2 level absent - cuts 0,0,0", 4), ("2 unlike absent 0,1 cuts 0,91", 4),
                         ("1 level absent - cuts 9999", 4)):
            self.assert_raises_with(BadValue, at, parse, f"race {told}\n")

    def test_words_that_are_none(self):
        for word in NO_OFFERS:
            for line in (word, "top1:0@3/2+ " + word, word + " top1:0@3/2+", "top1:4@3/2+ " + word,
                         " ".join(["top1:0@3/2+"] * 9 + [word])):
                self.assert_raises_with(BadSyntax, 0, parse, line + "\n")

    def test_numbers_of_an_offer(self):
        for number in NO_NUMBERS:
            for word in (f"top{number}:0@3/2+", f"top1:{number}@3/2+", f"top2:0,{number}@3/2+", f"row:{number}@3/2+",
                         f"row:{number},0@3/2+", f"top1:0@{number}/2+", f"top1:0@3/{number}+", f"row:0@1/{number}-"):
                self.assert_raises_with(BadSyntax, 0, parse, word + "\n")
        for word in ("top1:9999@3/2+", "top9999:0@3/2+", "top1:0@9999/9999+", "row:0,9999@0/0-"):
            self.assert_raises_with(BadOffer, 0, parse, word + "\n")

    def test_too_many_offers(self):
        for many in (9, 10, 1000):
            self.assert_raises_with(BadValue, 1, parse, " ".join(["top1:0@3/2+"] * many) + "\n")
            self.assert_raises_with(BadValue, 1, parse, " ".join(["top1:4@1/0+"] * many) + "\n")
        self.assertEqual(parse(" ".join(["top1:0@3/2+"] * 8) + "\n"), (WIN,) * 8)

    def test_words_that_are_no_offers(self):
        for word in NOT_FOR_FOUR:
            for at in (0, 3, 7):
                words = ["top1:0@3/2+"] * 8
                words[at] = word
                self.assert_raises_with(BadOffer, at, parse, " ".join(words) + "\n")
        self.assert_raises_with(BadOffer, 1, parse, "top1:0@3/2+ top1:0@1/0+ top1:4@3/2+\n")
        self.assert_raises_with(BadOffer, 0, parse, "top1:0@1/0+ top1:4@3/2+\n")

    def test_a_line_is_asked_ahead_of_its_numbers(self):
        self.assert_raises_with(BadSyntax, 0, parse, "top1:4@1/0+")
        self.assert_raises_with(BadSyntax, 0, parse, " ".join(["top1:0@3/2+"] * 9))
        self.assert_raises_with(BadSyntax, 0, parse, "race 5 level absent 1,0 cuts 91")
        self.assert_raises_with(BadSyntax, 0, parse, "race 5 level absent 1,0 cuts -\n")


class Both(Case):
    def assert_the_same_again(self, value):
        text = printed(value)
        self.assertIs(type(text), str)
        self.assertEqual((text.count("\n"), text[-1]), (1, "\n"))
        self.assertEqual(parse(text), value)
        self.assertEqual(printed(parse(text)), text)

    def test_all_races(self):
        for race in all_races():
            self.assert_the_same_again(race)
            self.assert_the_same_again(Race(race.runners, race.ties, race.absent))
        draw = random.Random(43)
        for number in range(200):
            self.assert_the_same_again(drawn_race(draw, Race))

    def test_all_bets(self):
        for bet in all_bets(4):
            for side in ("for", "against"):
                for odds in ((1, 1), (1000, 1), (1, 1000), (10, 7), (907, 1000)):
                    self.assert_the_same_again(((bet, odds, side),))

    def test_drawn_offers(self):
        draw = random.Random(44)
        for number in range(200):
            self.assert_the_same_again(drawn_offers(draw, Race(draw.randint(1, 4)), number % 8 + 1))

    def test_drawn_texts(self):
        # Texts bent sign by sign: each that is parsed is printed the same again.
        draw = random.Random(45)
        lines = [line for _, line in RACES] + [word for _, word in WORDS] + [" ".join(word for _, word in WORDS)]
        seen = {True: 0, False: 0}
        for number in range(6000):
            text = list(draw.choice(lines) + "\n")
            for _ in range(draw.randint(1, 2)):
                at = draw.randrange(len(text))
                text[at:at + draw.randint(0, 1)] = draw.choice(("", " ", "\n", *"0123456789,:@/+-aceloprstuw"))
            text = "".join(text) or "\n"
            try:
                value = parse(text)
            except (BadSyntax, BadOffer, BadValue):
                seen[False] += 1
                continue
            seen[True] += 1
            self.assertEqual(printed(value), text)
        self.assertGreater(min(seen.values()), 100)


if __name__ == "__main__":
    unittest.main()
