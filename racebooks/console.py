"""A console that keeps races by names, answers commands, and keeps a log of them."""

from racebooks.books import sure, surest
from racebooks.errors import BadOffer, BadSyntax, BadValue, TooMany
from racebooks.further import low_odds, top_odds
from racebooks.kinds import fraction
from racebooks.pools import comes, least_stakes
from racebooks.races import Race, outcomes
from racebooks.texts import bet_told, fraction_told, fraction_word, need_parsed, offers_told, race_line, race_told

MOST_LETTERS = 12


class Console:
    """Races by names, and the commands that were answered."""

    def __init__(self):
        self._races = {}
        self._commands = []

    def run(self, command):
        """The answer to the command."""
        task = _task(command)
        if task is None:
            raise BadSyntax(0)
        answer = self._answer(task)
        self._commands.append(command)
        return answer

    def log(self):
        """All commands that were answered, each followed by a line feed."""
        return "".join([command + "\n" for command in self._commands])

    @staticmethod
    def replayed(log):
        """A console as if it had run the commands of the log."""
        if not isinstance(log, str):
            raise BadValue(1)
        lines = log.split("\n")
        console = Console()
        for at, line in enumerate(lines[:-1]):
            task = _task(line)
            if task is None:
                raise BadSyntax(at)
            console._repeat(line, task)
        if lines[-1] != "":
            raise BadSyntax(len(lines) - 1)
        return console

    def _repeat(self, command, task):
        """Keep what the command changed when it was run."""
        # Other commands change no race: working out their answers again would only take time.
        if task[0] == "race":
            self._answer(task)
        self._commands.append(command)

    def _answer(self, task):
        try:
            return self._worked_out(task)
        except BadValue:
            return "error BadValue"
        except BadOffer:
            return "error BadOffer"
        except TooMany:
            return "error TooMany"

    def _worked_out(self, task):
        word, name, told = task
        if word == "race":
            runners, ties, absent, cuts = told
            self._races[name] = Race(runners, ties, absent, cuts)
            return "ok"
        if word in POOL_ANSWERS:
            pool_answer = POOL_ANSWERS[word]
            return pool_answer(told)
        if name not in self._races:
            return "error Unknown"
        answer = ANSWERS[word]
        return answer(self._races[name], told)


def _task(command):
    """The first word of the command, the name in it, if any, and what else it tells; None if it has no form."""
    words = command.split(" ")
    word = words[0]
    if word in POOL_ANSWERS:
        name = None
        told = _pool_told(words[1:])
    elif len(words) > 1 and _is_name(words[1]):
        name = words[1]
        told = _told_behind_name(word, words[2:])
    else:
        return None
    return None if told is None else (word, name, told)


def _is_name(word):
    return word.isascii() and word.isalpha() and word.islower() and len(word) <= MOST_LETTERS


def _told_behind_name(word, words):
    """What the words behind the name tell in a command that begins with this word; None if they have no form."""
    if word == "race":
        return race_told(words)
    if word in ("show", "outcomes"):
        return () if len(words) == 0 else None
    if word in ("sure", "surest"):
        return offers_told(words) if len(words) > 0 else None
    if word in ("top", "low"):
        return _bet_and_offers_told(words)
    return None


def _bet_and_offers_told(words):
    if len(words) == 0:
        return None
    bet = bet_told(words[0])
    offers = offers_told(words[1:])
    return None if bet is None or offers is None else (bet, offers)


def _pool_told(words):
    """The pool and the row that the words tell."""
    if len(words) != 3:
        return None
    kept, step, row = _number_told(words[0]), _number_told(words[1]), _row_told(words[2])
    return None if kept is None or step is None or row is None else ((kept, step, len(row)), row)


def _row_told(word):
    row = []
    for part in word.split(","):
        paid = _number_told(part)
        if paid is None and part != "-":
            return None
        row.append(paid)
    return tuple(row)


def _number_told(word):
    """The fraction that the word tells, in lowest terms or not."""
    told = fraction_told(word)
    return None if told is None or told[1] == 0 else fraction(told[0], told[1])


def _shown(race, told):
    return race_line(race)


def _counted(race, told):
    return str(len(outcomes(race)))


def _sure_word(race, offers):
    need_parsed(offers)
    return sure(race, offers)[0]


def _surest_word(race, offers):
    need_parsed(offers)
    return fraction_word(surest(race, offers)[0])


def _top_word(race, told):
    bet, offers = told
    need_parsed(offers)
    return _odds_word(top_odds(race, offers, bet)[0])


def _low_word(race, told):
    bet, offers = told
    need_parsed(offers)
    return _odds_word(low_odds(race, offers, bet)[0])


def _odds_word(odds):
    if odds is None:
        return "none"
    return odds if odds == "sure" else fraction_word(odds)


def _comes_word(told):
    pool, row = told
    return "yes" if comes(pool, row) else "no"


def _least_word(told):
    pool, row = told
    stakes = least_stakes(pool, row)
    return "none" if stakes is None else ",".join([str(stake) for stake in stakes])


ANSWERS = {"show": _shown, "outcomes": _counted, "sure": _sure_word, "surest": _surest_word, "top": _top_word,
           "low": _low_word}
POOL_ANSWERS = {"comes": _comes_word, "least": _least_word}
