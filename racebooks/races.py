"""Races, their outcomes, bets on them, and what share of a bet is right."""

from itertools import permutations

from racebooks.errors import BadValue
from racebooks.kinds import fraction, is_integer_within, is_sequence

MOST_RUNNERS = 4
MOST_PLACES = 3
MOST_CUT = 90


class Race:
    """Who runs, whether they may come in level, who may be withdrawn, and what is cut then."""

    def __init__(self, runners, ties=True, absent=(), cuts=()):
        if not is_integer_within(runners, 1, MOST_RUNNERS):
            raise BadValue(1)
        if not isinstance(ties, bool):
            raise BadValue(2)
        if not _is_ascending(absent, runners):
            raise BadValue(3)
        if not _are_cuts(cuts, runners):
            raise BadValue(4)
        self._runners = runners
        self._ties = ties
        self._absent = tuple(absent)
        self._cuts = tuple(cuts) if len(cuts) > 0 else (0,) * runners

    @property
    def runners(self):
        return self._runners

    @property
    def ties(self):
        return self._ties

    @property
    def absent(self):
        return self._absent

    @property
    def cuts(self):
        return self._cuts

    def __eq__(self, other):
        return (isinstance(other, Race) and self.runners == other.runners and self.ties == other.ties
                and self.absent == other.absent and self.cuts == other.cuts)


def need_race(race, at):
    if not isinstance(race, Race):
        raise BadValue(at)


def outcomes(race):
    """All outcomes of the race, ascending as tuples."""
    need_race(race, 1)
    always = [runner for runner in range(race.runners) if runner not in race.absent]
    found = []
    for chosen in _subsets(race.absent):
        running = sorted(always + list(chosen))
        # An outcome has at least one runner.
        if len(running) > 0:
            found.extend(_orders(running, race.ties))
    return tuple(sorted(found))


def is_outcome(race, value):
    """Whether value is one of the race's outcomes."""
    need_race(race, 1)
    if not is_sequence(value) or len(value) == 0:
        return False
    if not all([_is_group(race, group) for group in value]):
        return False
    running = running_in(value)
    if len(set(running)) != len(running):
        return False
    return all([runner in running or runner in race.absent for runner in range(race.runners)])


def is_bet(race, value):
    """Whether value is a bet for the race."""
    need_race(race, 1)
    if not is_sequence(value):
        return False
    if len(value) == 3:
        return value[0] == "top" and _is_top(race, value[1], value[2])
    if len(value) == 2:
        return value[0] == "row" and _is_row(race, value[1])
    return False


def share(race, bet, outcome):
    """What part of all ways to break the outcome's ties makes the bet right; None if it is void."""
    need_race(race, 1)
    if not is_bet(race, bet):
        raise BadValue(2)
    if not is_outcome(race, outcome):
        raise BadValue(3)
    return bet_share(bet, outcome)


def bet_share(bet, outcome):
    """As share, for a bet and an outcome that are known to be of the same race."""
    running = running_in(outcome)
    # Both kinds of bets end with their runners.
    if not all([runner in running for runner in bet[-1]]):
        return None
    ways = _ways(outcome)
    right = [way for way in ways if _is_right(bet, way)]
    return fraction(len(right), len(ways))


def running_in(outcome):
    """Those who are not withdrawn."""
    return [runner for group in outcome for runner in group]


def _is_ascending(value, runners):
    """Whether value is an ascending sequence of numbers of so many runners."""
    return _are_runners(value, runners) and list(value) == sorted(set(value))


def _are_runners(value, runners):
    return is_sequence(value) and all([is_integer_within(part, 0, runners - 1) for part in value])


def _are_cuts(value, runners):
    if not is_sequence(value) or len(value) not in (0, runners):
        return False
    return all([is_integer_within(cut, 0, MOST_CUT) for cut in value])


def _is_group(race, group):
    return _is_ascending(group, race.runners) and _may_come_level(len(group), race.ties)


def _may_come_level(many, ties):
    """Whether so many runners may be a group."""
    return many == 1 or (ties and many > 1)


def _is_top(race, places, chosen):
    if not is_integer_within(places, 1, MOST_PLACES) or not _is_ascending(chosen, race.runners):
        return False
    return 1 <= len(chosen) <= places


def _is_row(race, chosen):
    if not _are_runners(chosen, race.runners) or len(set(chosen)) != len(chosen):
        return False
    return 1 <= len(chosen) <= MOST_PLACES


def _subsets(runners):
    """All subsets of ascending runners, as ascending tuples, the empty one first."""
    found = [()]
    for runner in runners:
        found = found + [chosen + (runner,) for chosen in found]
    return found


def _without(runners, chosen):
    return [runner for runner in runners if runner not in chosen]


def _orders(runners, ties):
    """All ways in which just these ascending runners can come in."""
    if len(runners) == 0:
        return [()]
    found = []
    for group in _subsets(runners):
        if _may_come_level(len(group), ties):
            found.extend([(group,) + behind for behind in _orders(_without(runners, group), ties)])
    return found


def _sequences(runners):
    """All sequences of all of these runners."""
    listed = list(runners)
    return list(permutations(listed))


def _ways(outcome):
    """All ways to break the outcome's ties."""
    found = [()]
    for group in outcome:
        behind = _sequences(group)
        found = [ahead + sequence for ahead in found for sequence in behind]
    return found


def _is_right(bet, way):
    if bet[0] == "top":
        first = way[:bet[1]]
        return all([runner in first for runner in bet[2]])
    return way[:len(bet[1])] == tuple(bet[1])
