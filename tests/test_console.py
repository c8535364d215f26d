"""[11] to [13], [45] to [48]"""

import random
import unittest
from fractions import Fraction

from racebooks.books import sure, surest
from racebooks.console import Console
from racebooks.errors import BadSyntax, BadValue
from racebooks.further import low_odds, top_odds
from racebooks.pools import comes, least_stakes
from racebooks.races import Race, outcomes
from racebooks.texts import printed
from tests.helpers import ANY_VALUES, NO_SEQUENCES, Case, nested
from tests.reckoning import drawn_bet, drawn_offers, drawn_race
from tests.test_texts import NO_NUMBERS, NO_OFFERS, NOT_FOR_FOUR

# Commands with their answers, in this order.
ANSWERED = (
    ("race a 2 level absent - cuts 0,0", "ok"),
    ("race b 2 unlike absent - cuts 0,0", "ok"),
    ("race wide 4 level absent 0,1,2,3 cuts 0,10,20,90", "ok"),
    ("show a", "race 2 level absent - cuts 0,0"),
    ("show wide", "race 4 level absent 0,1,2,3 cuts 0,10,20,90"),
    ("outcomes a", "3"), ("outcomes b", "2"), ("outcomes wide", "149"),
    ("sure a top1:0@3/2+ top1:1@1/1+", "stakes"), ("sure a top1:0@3/2+", "chances"),
    ("surest a top1:0@3/2+ top1:1@1/1+", "1/9"), ("surest a top1:0@3/2+", "-1/1"),
    ("surest b top1:0@1/1+ top1:0@1/1-", "0/1"), ("surest b top2:0@7/5+", "7/5"),
    ("top b top1:1 top1:0@3/2+", "2/3"), ("top b top1:1", "none"), ("top b row:1,0 top1:0@3/2-", "none"),
    ("top b top2:0", "0/1"), ("top b top1:0 top1:0@3/2+ top1:1@1/1+", "sure"),
    ("low b top1:1 top1:0@3/2-", "2/3"), ("low b top1:1", "0/1"), ("low b row:1 top1:0@3/2+ top1:1@1/1+", "sure"),
    ("low a row:1,0 top2:0@1/1+ top1:0@1/1-", "sure"),
    ("race three 3 level absent - cuts 0,0,0", "ok"),
    ("low three row:1,0 top2:0@1/1+ top1:0@1/1-", "none"),
    ("comes 0/1 1/1 2/1,2/1", "yes"), ("comes 0/1 1/1 1/1,1/1", "no"), ("comes 1/10 1/10 9/10,-", "yes"),
    ("comes 1/2 1/1 0/1,-,-,-", "yes"), ("comes 0/1 1/1 0/1", "no"),
    ("least 0/1 1/1 3/1,1/1", "1,2"), ("least 0/1 1/1 -,1/1,-", "0,1,0"), ("least 0/1 1/1 1/1,1/1", "none"),
    ("least 1/2 1/1 0/1", "1"), ("least 0/1 1/1 5000/1,1/1", "1,4999"))
# Commands with a form that are answered by errors, behind those above.
ERRORS = (
    ("show c", "Unknown"), ("outcomes c", "Unknown"), ("sure c top1:0@3/2+", "Unknown"),
    ("surest c top1:0@3/2+", "Unknown"), ("top c top1:0", "Unknown"), ("low c top1:0 top1:0@3/2+", "Unknown"),
    ("show race", "Unknown"), ("sure aa top1:0@3/2+", "Unknown"),
    # Ahead of the errors of what stands behind the name.
    ("sure c top1:0@1/0+", "Unknown"), ("surest c" + " top1:4@1/1+" * 9, "Unknown"), ("top c top9:9", "Unknown"),
    ("low c top9:9 top9:9@1/0+", "Unknown"),
    ("race a 5 level absent - cuts 0", "BadValue"), ("race a 0 level absent - cuts 0", "BadValue"),
    ("race a 2 level absent 1,0 cuts 0,0", "BadValue"), ("race a 2 unlike absent - cuts 0", "BadValue"),
    ("race new 2 unlike absent - cuts 0,91", "BadValue"), ("show new", "Unknown"),
    ("sure a top1:0@1/0+", "BadOffer"), ("sure a top1:2@1/1+", "BadOffer"), ("surest a top1:4@1/1+", "BadOffer"),
    ("surest a top1:0@6/4+", "BadOffer"), ("sure a" + " top1:0@1/1+" * 9, "BadValue"),
    # More than 8 are told ahead of which is none.
    ("surest a" + " top1:4@1/0+" * 9, "BadValue"),
    ("top a top1:2", "BadValue"), ("low a top9:0", "BadValue"), ("top a row:0,0", "BadValue"),
    ("top a top1:2 top1:0@1/1+", "BadValue"), ("low a top1:0 top1:2@1/1+", "BadOffer"),
    ("low a top1:2 top1:2@1/1+", "BadOffer"), ("top a top1:0 top1:0@0/1+", "BadOffer"),
    # Eight offers are too many for top and low; one that is none of four runners is told ahead of that.
    ("top a top1:0" + " top1:0@1/1+" * 8, "BadValue"), ("low a top1:0" + " top1:0@1/1-" * 8, "BadValue"),
    ("top a top1:0" + " top1:0@1/1+" * 7 + " top1:2@1/1+", "BadValue"),
    ("top a top1:0" + " top1:0@1/1+" * 7 + " top1:4@1/1+", "BadOffer"),
    ("low a top1:0" + " top1:0@1/1+" * 7 + " top1:4@1/1+", "BadOffer"),
    ("top a top1:0" + " top1:0@1/1+" * 8 + " top1:4@1/1+", "BadValue"),
    ("comes 1/1 1/1 1/1", "BadValue"), ("comes 3/2 1/1 1/1", "BadValue"), ("comes 0/1 0/1 1/1", "BadValue"),
    ("comes 0/1 2/1 2/1", "BadValue"), ("comes 0/1 1/101 1/1", "BadValue"), ("comes 0/1 1/1 -,-", "BadValue"),
    ("comes 0/1 1/1 -", "BadValue"), ("comes 0/1 1/1 1/2,-", "BadValue"), ("comes 0/1 1/1 1/1,-,-,-,-", "BadValue"),
    ("least 1/1 1/1 1/1", "BadValue"), ("least 0/1 1/1 1/2", "BadValue"), ("least 0/1 1/1 -,-,-", "BadValue"),
    ("least 0/1 1/1 5001/1,1/1", "TooMany"), ("least 0/1 1/1 1/1,9999/1", "TooMany"))
NO_NAMES = ("", "A", "aB", "a1", "1", "a_b", "a-b", "abcdefghijklm", "a.", "-", "a" * 60, "\u00e9", "a\u00df")
NO_FORMS = (
    "", " ", "-", "a", "race", "show", "outcomes", "sure", "surest", "top", "low", "comes", "least", "log", "run",
    "show a b", "show  a", " show a", "show a ", "Show a", "SHOW a", "shows a", "show\ta", "show a\t", "outcomes a 1",
    "outcomes  a", "outcome a", "print a", "print a top1:0", "tops a row:0 row:0@1/1+",
    "replayed a", "a show", "sure a", "sure a ", "surest a", "surest a  ",
    "top a", "low a", "top a ", "top a top1:0 ", "low a  top1:0", "low a top1:0  top1:0@1/1+", "top a top1:0@1/1+",
    "low a top1:0@1/1+ top1:0", "sure a top1:0", "sure a top1:0@1/1+ top1:0", "surest a row:0 top1:0@1/1+",
    "top a top1:0 row:0", "race 2 level absent - cuts 0,0", "race a 2 level absent - cuts -", "race a 2 level absent -",
    "race a 2 level cuts 0,0 absent -", "race a 2 level absent cuts 0,0", "race a 2 level absent - cuts 0,0 ",
    "race a 2 even absent - cuts 0,0", "race a b 2 level absent - cuts 0,0", "race a 2 level absent - cuts 0,0 -",
    "race a  2 level absent - cuts 0,0", "race a two level absent - cuts 0,0", "race a 2 True absent - cuts 0,0",
    "comes 0/1 1/1", "comes 0/1 1/1 ", "comes 0/1 1/1 1/1 ", "comes 0/1 1/1 1/1 1/1", "comes 0 1/1 1/1",
    "comes 0/1 1 1/1", "comes 0/1 1/1 1", "comes 0/1 1/1 1/1,", "comes 0/1 1/1 ,1/1", "comes 0/1 1/1 1/1,,1/1",
    "comes 0/0 1/1 1/1", "comes 0/1 1/0 1/1", "comes 0/1 1/1 1/0", "comes 0/1 1/1 1/1,2/0", "comes - 1/1 1/1",
    "comes 0/1 - 1/1", "comes 0/1 1/1 --", "comes 0/1 1/1 None", "comes 0/1 1/1 -1/1", "comes -1/2 1/1 1/1",
    "comes 0/1,1/1 1/1", "comes 0/1/1 1/1 1/1", "least 0/1 1/1", "least 0/1 1/1 1/1 x", "least 0/1  1/1 1/1",
    "least 0/1 1/1 1/1;1/1", "least a 0/1 1/1 1/1", "comes a 0/1 1/1 1/1", "show a" + "a" * 12, "a" * 60000)


def answered(console):
    """Runs all commands with answers; returns the console."""
    for command, _ in ANSWERED:
        console.run(command)
    return console


def word_of(number):
    return f"{number[0]}/{number[1]}"


class Answers(Case):
    def test_answers(self):
        console = Console()
        for command, answer in ANSWERED:
            found = console.run(command)
            self.assertIs(type(found), str)
            self.assertEqual((command, found), (command, answer))
        self.assertEqual(console.log(), "".join(command + "\n" for command, _ in ANSWERED))

    def test_errors_told_as_answers(self):
        console = answered(Console())
        for command, kind in ERRORS:
            self.assertEqual((command, console.run(command)), (command, "error " + kind))
            self.assertTrue(console.log().endswith("\n" + command + "\n"))
        self.assertEqual(console.log(), "".join(command + "\n" for command, _ in ANSWERED + ERRORS))
        # No race has changed.
        self.assertEqual(console.run("show a"), "race 2 level absent - cuts 0,0")
        self.assertEqual(console.run(command="outcomes a"), "3")

    def test_words_that_are_no_offers(self):
        console = answered(Console())
        for word in NOT_FOR_FOUR:
            for command in (f"sure wide {word}", f"surest wide top1:0@1/1+ {word}", f"top wide top1:0 {word}",
                            f"low wide top9:9 top1:0@1/1+ {word}"):
                self.assertEqual(console.run(command), "error BadOffer")

    def test_names(self):
        console = Console()
        for name in ("a", "z", "race", "level", "absent", "show", "abcdefghijkl", "zzzzzzzzzzzz"):
            self.assertEqual(console.run(f"show {name}"), "error Unknown")
            self.assertEqual(console.run(f"race {name} 3 unlike absent 2 cuts 1,2,3"), "ok")
            self.assertEqual(console.run(f"show {name}"), "race 3 unlike absent 2 cuts 1,2,3")
            self.assertEqual(console.run(f"outcomes {name}"), "8")

    def test_a_known_name_gets_another_race(self):
        console = answered(Console())
        self.assertEqual(console.run("race a 4 unlike absent 3 cuts 0,0,0,9"), "ok")
        self.assertEqual(console.run("show a"), "race 4 unlike absent 3 cuts 0,0,0,9")
        self.assertEqual(console.run("outcomes a"), "30")
        self.assertEqual(console.run("show b"), "race 2 unlike absent - cuts 0,0")
        self.assertEqual(console.run("race a 4 unlike absent 4 cuts 0,0,0,9"), "error BadValue")
        self.assertEqual(console.run("show a"), "race 4 unlike absent 3 cuts 0,0,0,9")

    def test_numbers_that_are_not_in_lowest_terms(self):
        console = Console()
        self.assertEqual(console.run("comes 0/9 7/7 4/2,6/3"), "yes")
        self.assertEqual(console.run("comes 2/20 10/100 27/10,130/100"), "yes")
        self.assertEqual(console.run("least 2/20 10/100 54/20,130/100"), "1,2")
        self.assertEqual(console.run("least 0/1 1/1 0/5,10/10"), "none")
        # A step of 10/1000 is one of 1/100, and one of 100/1010 none.
        self.assertEqual(console.run("comes 0/1 10/1000 1/1"), "yes")
        self.assertEqual(console.run("comes 0/1 10/1010 1/1"), "error BadValue")
        self.assertEqual(console.run("comes 2/2 1/1 1/1"), "error BadValue")

    def test_many_parts_of_a_row(self):
        console = Console()
        self.assertEqual(console.run("comes 0/1 1/1 1/1"), "yes")
        self.assertEqual(console.run("comes 0/1 1/1 2/1,-,2/1,-"), "yes")
        self.assertEqual(console.run("least 0/1 1/1 2/1,-,2/1,-"), "1,0,1,0")
        for many in (5, 6, 1000):
            self.assertEqual(console.run("comes 0/1 1/1 " + ",".join(["4/1"] * many)), "error BadValue")

    def test_numbers_of_offers_for_top_and_low(self):
        console = answered(Console())
        for many in range(8):
            offers = " top1:0@1/1+" * many
            self.assertEqual(console.run("top b top1:1" + offers), "1/1" if many else "none")
            self.assertEqual(console.run("low b top1:1" + offers), "0/1")
        for many in range(1, 9):
            self.assertEqual(console.run("sure b" + " top1:0@1/1+" * many), "chances")

    def test_drawn(self):
        # Each answer is what the functions say of values that no text has told.
        draw = random.Random(46)
        console, kept = Console(), {}
        for number in range(300):
            name = draw.choice(("a", "b", "c"))
            if name not in kept or draw.random() < 0.2:
                kept[name] = drawn_race(draw, Race, 3)
                words = printed(kept[name])[5:-1]
                self.assertEqual(console.run(f"race {name} {words}"), "ok")
            race = kept[name]
            offers = drawn_offers(draw, race, draw.randint(1, 7))
            words, bet = printed(offers)[:-1], drawn_bet(draw, race)
            bet_word = printed(((bet, (1, 1), "for"),)).partition("@")[0]
            self.assertEqual(console.run(f"outcomes {name}"), str(len(outcomes(race))))
            self.assertEqual(console.run(f"sure {name} {words}"), sure(race, offers)[0])
            self.assertEqual(console.run(f"surest {name} {words}"), word_of(surest(race, offers)[0]))
            for command, function in (("top", top_odds), ("low", low_odds)):
                odds = function(race, offers, bet)[0]
                answer = {None: "none", "sure": "sure"}.get(odds) or word_of(odds)
                self.assertEqual(console.run(f"{command} {name} {bet_word} {words}"), answer)

    def test_drawn_pools(self):
        draw = random.Random(47)
        console, seen = Console(), set()
        for number in range(300):
            kept, step = Fraction(draw.randint(0, 9), 10), Fraction(1, draw.choice((1, 2, 10)))
            row = [None if draw.random() < 0.2 else draw.randint(0, 12) * step for _ in range(draw.randint(1, 4))]
            row[0] = step * draw.randint(0, 12)
            pool = ((kept.numerator, kept.denominator), (step.numerator, step.denominator), len(row))
            told = tuple(None if paid is None else (paid.numerator, paid.denominator) for paid in row)
            times = draw.choice((1, 1, 3))
            words = ["-" if paid is None else f"{paid[0] * times}/{paid[1] * times}" for paid in told]
            command = f"{kept.numerator}/{kept.denominator} {step.numerator}/{step.denominator} {','.join(words)}"
            answer = "yes" if comes(pool, told) else "no"
            self.assertEqual(console.run("comes " + command), answer)
            stakes = least_stakes(pool, told)
            self.assertEqual(console.run("least " + command), "none" if stakes is None else ",".join(map(str, stakes)))
            seen.add(answer)
        self.assertEqual(seen, {"yes", "no"})


class Forms(Case):
    def assert_no_form(self, console, command):
        log = console.log()
        self.assert_raises_with(BadSyntax, 0, console.run, command)
        self.assertEqual(console.log(), log)

    def test_commands_that_have_no_form(self):
        for console in (Console(), answered(Console())):
            for command in NO_FORMS:
                self.assert_no_form(console, command)

    def test_names_that_are_none(self):
        console = answered(Console())
        for name in NO_NAMES:
            for command in (f"race {name} 2 level absent - cuts 0,0", f"show {name}", f"outcomes {name}",
                            f"sure {name} top1:0@1/1+", f"surest {name} top1:0@1/1+", f"top {name} top1:0",
                            f"low {name} top1:0 top1:0@1/1+"):
                self.assert_no_form(console, command)

    def test_words_of_no_form(self):
        console = answered(Console())
        for word in NO_OFFERS:
            for name in ("a", "unknown"):
                for command in (f"sure {name} {word}", f"surest {name} top1:0@1/1+ {word}", f"top {name} top1:0 {word}",
                                f"low {name} top1:4 top1:4@1/0+ {word}", f"sure {name} {word} top1:0@1/1+"):
                    self.assert_no_form(console, command)

    def test_numbers_that_are_none(self):
        console = answered(Console())
        for number in NO_NUMBERS:
            for command in (f"race a {number} level absent - cuts 0,0", f"race a 2 level absent 0,{number} cuts 0,0",
                            f"race a 2 level absent - cuts {number}", f"top a top{number}:0", f"low a top1:{number}",
                            f"top a row:0,{number}", f"comes {number}/1 1/1 1/1", f"comes 0/{number} 1/1 1/1",
                            f"comes 0/1 {number}/1 1/1", f"least 0/1 1/{number} 1/1", f"least 0/1 1/1 {number}/1",
                            f"least 0/1 1/1 -,1/{number}"):
                self.assert_no_form(console, command)

    def test_bets_that_are_none(self):
        console = answered(Console())
        for word in ("", "top", "row", "top1", "top1:", "row:", "top:0", "row1:0", "top1:0:0", "Top1:0", "top1:0,",
                     "win1:0", "top1:0+", "top1:0@1/1", "row:-", "-", "xxx1:0"):
            for name in ("a", "unknown"):
                self.assert_no_form(console, f"top {name} {word}")
                self.assert_no_form(console, f"low {name} {word} top1:0@1/1+")


class Logs(Case):
    def assert_alike(self, console, other):
        """That both have the same log, and answer every command alike."""
        self.assertIs(type(other), Console)
        self.assertEqual(other.log(), console.log())
        for command, _ in ANSWERED[3:] + ERRORS + ANSWERED:
            self.assertEqual(console.run(command), other.run(command))
        self.assertEqual(other.log(), console.log())

    def test_an_empty_log(self):
        self.assertEqual(Console().log(), "")
        console = Console.replayed("")
        self.assertEqual(console.log(), "")
        self.assertEqual(console.run("show a"), "error Unknown")
        self.assert_alike(Console(), Console.replayed(log=""))

    def test_replayed(self):
        console = Console()
        for command, _ in ANSWERED[:3] + ERRORS + ANSWERED[8:12] + ANSWERED[:1]:
            console.run(command)
        other = Console.replayed(console.log())
        for name, told in (("a", "2 level absent - cuts 0,0"), ("wide", "4 level absent 0,1,2,3 cuts 0,10,20,90")):
            self.assertEqual(other.run(f"show {name}"), f"race {told}")
            console.run(f"show {name}")
        self.assertEqual(other.run("show new"), "error Unknown")
        console.run("show new")
        self.assert_alike(console, other)

    def test_replayed_behind_each_command(self):
        console, shown = Console(), {}
        for command, _ in ANSWERED[:3] + ERRORS[12:18] + ANSWERED[5:9] + (("race a 1 level absent - cuts 7", "ok"),):
            if console.run(command) == "ok":
                shown[command.split(" ")[1]] = "race " + command.split(" ", 2)[2]
            log = console.log()
            other = Console.replayed(log)
            self.assertEqual(other.log(), log)
            for name in ("a", "b", "wide", "new"):
                self.assertEqual(other.run(f"show {name}"), shown.get(name, "error Unknown"))
            # What the other one has run since is not in this one's log.
            self.assertEqual(console.log(), log)
        self.assertEqual(shown["a"], "race 1 level absent - cuts 7")

    def test_later_races_count(self):
        log = "race a 2 level absent - cuts 0,0\nrace a 3 level absent - cuts 0,0,0\nrace a 5 level absent - cuts 0\n"
        console = Console.replayed(log)
        self.assertEqual(console.run("show a"), "race 3 level absent - cuts 0,0,0")
        self.assertEqual(console.log(), log + "show a\n")

    def test_what_is_no_string(self):
        for log in ANY_VALUES + NO_SEQUENCES + (("show a\n",), ["show a\n"], nested(40)):
            if not isinstance(log, str):
                self.assert_raises_with(BadValue, 1, Console.replayed, log)

    def test_lines_of_no_form(self):
        lines = [command for command, _ in ANSWERED + ERRORS]
        for at in (0, 1, 7, len(lines) - 1):
            for line in NO_FORMS[:40]:
                wrong = lines[:at] + [line] + lines[at:]
                self.assert_raises_with(BadSyntax, at, Console.replayed, "\n".join(wrong) + "\n")
                # The first of these is told, and ahead of an end without a line feed.
                self.assert_raises_with(BadSyntax, at, Console.replayed, "\n".join(wrong + ["", "x"]) + "\n")
                self.assert_raises_with(BadSyntax, at, Console.replayed, "\n".join(wrong + ["show a"]))
        self.assert_raises_with(BadSyntax, 0, Console.replayed, "\n")
        self.assert_raises_with(BadSyntax, 1, Console.replayed, "show a\n\n")
        self.assert_raises_with(BadSyntax, 0, Console.replayed, "\n\nshow a")
        self.assert_raises_with(BadSyntax, 0, Console.replayed, "\n" * 60000)

    def test_a_log_that_does_not_end_with_a_line_feed(self):
        lines = [command for command, _ in ANSWERED + ERRORS]
        for many in (0, 1, 5, len(lines)):
            for behind in ("show a", "x", " ", "race a 2 level absent - cuts 0,0", "show a\r", "a" * 5000):
                log = "".join(line + "\n" for line in lines[:many]) + behind
                self.assert_raises_with(BadSyntax, many, Console.replayed, log)
            self.assertEqual(Console.replayed("".join(line + "\n" for line in lines[:many])).run("show zz"),
                             "error Unknown")

    def test_consoles_share_nothing(self):
        one, other = Console(), Console()
        one.run("race a 2 level absent - cuts 0,0")
        self.assertEqual((other.log(), other.run("show a")), ("", "error Unknown"))
        again = Console.replayed(one.log())
        one.run("race a 3 level absent - cuts 0,0,0")
        again.run("race b 4 level absent - cuts 0,0,0,0")
        self.assertEqual(one.run("show b"), "error Unknown")
        self.assertEqual(again.run("show a"), "race 2 level absent - cuts 0,0")
        self.assertEqual(one.run("show a"), "race 3 level absent - cuts 0,0,0")

    def test_drawn(self):
        draw = random.Random(48)
        commands = [command for command, _ in ANSWERED + ERRORS] + list(NO_FORMS[:-1])
        for number in range(10):
            console = Console()
            for _ in range(30):
                try:
                    console.run(draw.choice(commands))
                except BadSyntax:
                    pass
            self.assert_alike(console, Console.replayed(console.log()))


if __name__ == "__main__":
    unittest.main()
