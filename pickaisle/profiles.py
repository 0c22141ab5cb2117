"""Profiles: all that matters at the cross places of an aisle of the links told so far, one stretch after another."""

from pickaisle.kinds import DONE, NONE, kind_from

SOME = "some"


class Profile:
    """What was told of an aisle so far.

    The word is "done" if the aisle was come to from this kind, "none" if from this kind and no mark stands in the
    aisle, otherwise "some". For each cross place from below, odds has 1 if the sum of its numbers so far is odd,
    counted as even at odd places, otherwise 0; and lots has the number, counted from 1, of the lowest place of its
    lot, or 0 if it is in none.
    """

    def __init__(self, word, odds, lots):
        self.word = word
        self.odds = odds
        self.lots = lots
        # What follows from this profile is kept here, as it is asked for in each aisle again.
        self.onward = {}
        self.leaving = {}


class Profiles:
    """The profiles that were come to, each one once."""

    def __init__(self):
        self._made = {}

    def profile(self, word, odds, lots):
        """Return the profile with this word and these lists."""
        key = (word, tuple(odds), tuple(lots))
        if key not in self._made:
            self._made[key] = Profile(word, key[1], key[2])
        return self._made[key]

    def after(self, profile, part):
        """Return the profile behind a part, a tuple (stretch, low, high, joins) of an option; or None."""
        if part not in profile.onward:
            profile.onward[part] = self._find_after(profile, part)
        return profile.onward[part]

    def _find_after(self, profile, part):
        """What after returns, found anew."""
        stretch, low, high, joins = part
        if low + high == 0:
            return profile
        if profile.word == DONE:
            return None
        odds, lots = list(profile.odds), list(profile.lots)
        for place, number in [(stretch, low), (stretch + 1, high)]:
            if number > 0:
                odds[place] = (odds[place] + number) % 2
                lots[place] = lots[place] or place + 1
        if joins:
            lower, upper = sorted(lots[stretch:stretch + 2])
            lots = [lower if lot == upper else lot for lot in lots]
        return self.profile(profile.word, odds, lots)


def leaving(profile, are_open):
    """Return a tuple of all (kind behind, sum of the numbers behind, numbers behind), by these numbers ascending.

    The tuple are_open tells for each cross place whether there is an over link behind that is not closed.
    """
    if are_open not in profile.leaving:
        profile.leaving[are_open] = tuple(_find_leaving(profile, are_open))
    return profile.leaving[are_open]


def _find_leaving(profile, are_open):
    """What leaving returns, found anew."""
    rows = [()]
    for odd, is_open in zip(profile.odds, are_open):
        if odd == 1:
            numbers = [1] if is_open else []
        else:
            numbers = [0, 2] if is_open else [0]
        rows = [row + (number,) for row in rows for number in numbers]
    found = []
    for overs in rows:
        kind = _kind_with(profile, overs) if any(overs) else _kind_without(profile)
        if kind is not None:
            found.append((kind, sum(overs), overs))
    return found


def _kind_with(profile, overs):
    """The kind behind the aisle with these numbers behind, some of them above 0; or None."""
    met = [lot for lot, number in zip(profile.lots, overs) if number > 0]
    if profile.word == DONE or any([lot > 0 and lot not in met for lot in profile.lots]):
        return None
    # A place that is in no lot gets one of its own by its link behind.
    return kind_from(overs, [lot or place for place, lot in enumerate(profile.lots, start=1)])


def _kind_without(profile):
    """The kind behind the aisle if no link behind is walked, or None."""
    lots = [lot for lot in profile.lots if lot > 0]
    if profile.word == NONE:
        return None if lots else NONE
    return DONE if profile.word == DONE or (lots and min(lots) == max(lots)) else None
