"""Texts of races and offers, and what their words tell.

What reads a word returns None if the word does not have the form; what it returns need not be of any race.
"""

from racebooks.errors import BadSyntax, BadValue
from racebooks.kinds import is_sequence
from racebooks.offers import MOST_OFFERS, is_offer, need_offers
from racebooks.races import MOST_RUNNERS, Race

MOST_DIGITS = 4


def printed(value):
    """The text of a race, or of offers for a race of four runners."""
    if isinstance(value, Race):
        return race_line(value) + "\n"
    if not is_sequence(value) or not 1 <= len(value) <= MOST_OFFERS:
        raise BadValue(1)
    race = _race_of_four()
    if not all([is_offer(race, offer) for offer in value]):
        raise BadValue(1)
    return " ".join([_offer_word(offer) for offer in value]) + "\n"


def parse(text):
    """The race or the offers of which this is the text."""
    if not isinstance(text, str):
        raise BadValue(1)
    line, feed, behind = text.partition("\n")
    if feed == "" or behind != "":
        raise BadSyntax(0)
    words = line.split(" ")
    if words[0] == "race":
        return _parsed_race(words[1:])
    offers = offers_told(words)
    if offers is None:
        raise BadSyntax(0)
    need_parsed(offers)
    return offers


def need_parsed(offers):
    """Raises what parse raises for these offers if they are no offers for a race of four runners."""
    need_offers(_race_of_four(), offers, 1, 0)


def race_line(race):
    """The text of the race, without its line feed."""
    ties = "level" if race.ties else "unlike"
    absent = _numbers_word(race.absent) if len(race.absent) > 0 else "-"
    return f"race {race.runners} {ties} absent {absent} cuts {_numbers_word(race.cuts)}"


def fraction_word(number):
    return f"{number[0]}/{number[1]}"


def race_told(words):
    """The arguments of Race that the words behind race (and its name) tell."""
    if len(words) != 6 or words[1] not in ("level", "unlike") or words[2] != "absent" or words[4] != "cuts":
        return None
    runners = number_told(words[0])
    absent = () if words[3] == "-" else numbers_told(words[3])
    cuts = numbers_told(words[5])
    if runners is None or absent is None or cuts is None:
        return None
    return (runners, words[1] == "level", absent, cuts)


def offers_told(words):
    offers = tuple([_offer_told(word) for word in words])
    return None if None in offers else offers


def bet_told(word):
    kind, _, runners = word.partition(":")
    chosen = numbers_told(runners)
    if chosen is None:
        return None
    if kind == "row":
        return ("row", chosen)
    places = number_told(kind[3:])
    if not kind.startswith("top") or places is None:
        return None
    return ("top", places, chosen)


def fraction_told(word):
    """The pair of any two numbers, as 1/0."""
    top_word, _, bottom_word = word.partition("/")
    top = number_told(top_word)
    bottom = number_told(bottom_word)
    return None if top is None or bottom is None else (top, bottom)


def numbers_told(word):
    numbers = tuple([number_told(part) for part in word.split(",")])
    return None if None in numbers else numbers


def number_told(word):
    # To isdigit alone, digits of other scripts are digits as well.
    if not word.isascii() or not word.isdigit() or len(word) > MOST_DIGITS:
        return None
    return None if word[0] == "0" and word != "0" else int(word)


def _parsed_race(words):
    told = race_told(words)
    if told is None:
        raise BadSyntax(0)
    runners, ties, absent, cuts = told
    return Race(runners, ties, absent, cuts)


def _offer_told(word):
    bet_word, _, rest = word.partition("@")
    bet = bet_told(bet_word)
    odds = fraction_told(rest[:-1])
    if bet is None or odds is None or rest[-1] not in ("+", "-"):
        return None
    return (bet, odds, "for" if rest[-1] == "+" else "against")


def _offer_word(offer):
    bet, odds, side = offer
    sign = "+" if side == "for" else "-"
    return f"{_bet_word(bet)}@{fraction_word(odds)}{sign}"


def _bet_word(bet):
    # Both kinds of bets end with their runners.
    runners = _numbers_word(bet[-1])
    return f"row:{runners}" if bet[0] == "row" else f"top{bet[1]}:{runners}"


def _numbers_word(numbers):
    return ",".join([str(number) for number in numbers])


def _race_of_four():
    return Race(MOST_RUNNERS)
