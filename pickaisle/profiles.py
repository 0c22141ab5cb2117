"""Profiles: all that matters at the cross places of an aisle of the links told so far, one stretch after another."""

from pickaisle.kinds import DONE, NONE, kind_from

SOME = "some"


class Profile:
    """What was told of an aisle so far.

    The word is "done" if the aisle was come to from this kind, "none" if from this kind and no mark stands in the
    aisle, otherwise "some". For each cross place from below, odds has 1 if the sum of its numbers so far is odd,
    counted as even at odd places, otherwise 0; and lots has the number of its lot, or 0 if it is in none.
    """

    def __init__(self, word, odds, lots):
        self.word = word
        self.odds = odds
        self.lots = lots
        # What follows from this profile is kept here, as it is asked for in each aisle again.
        self.onward = {}
        self.leaving = None


class Profiles:
    """The profiles that were come to, each one once."""

    def __init__(self):
        self._made = {}

    def profile(self, word, odds, lots):
        """Return the profile with the lots numbered from 1 on in the order in which they come first."""
        numbers = {0: 0}
        numbered = tuple([numbers.setdefault(lot, len(numbers)) for lot in lots])
        key = (word, tuple(odds), numbered)
        if key not in self._made:
            self._made[key] = Profile(word, key[1], numbered)
        return self._made[key]

    def after(self, profile, stretch, signs):
        """Return the profile behind a stretch whose option has the signs (low, high, joins), or None."""
        key = (stretch, signs)
        if key not in profile.onward:
            profile.onward[key] = self._find_after(profile, stretch, signs)
        return profile.onward[key]

    def _find_after(self, profile, stretch, signs):
        """What after returns, found anew."""
        low, high, joins = signs
        if profile.word == DONE:
            return profile if low + high == 0 else None
        odds, lots = list(profile.odds), list(profile.lots)
        for place, number in [(stretch, low), (stretch + 1, high)]:
            odds[place] = (odds[place] + number) % 2
            if number > 0 and lots[place] == 0:
                lots[place] = max(lots) + 1
        if joins:
            one, other = lots[stretch], lots[stretch + 1]
            lots = [one if lot == other else lot for lot in lots]
        return self.profile(profile.word, odds, lots)


def leaving(profile):
    """Return a tuple of all (kind behind, sum of the numbers behind, numbers behind), if no link behind is closed."""
    if profile.leaving is None:
        profile.leaving = tuple(_find_leaving(profile))
    return profile.leaving


def _find_leaving(profile):
    """What leaving returns, found anew, by the numbers behind ascending."""
    rows = [()]
    for odd in profile.odds:
        rows = [row + (number,) for row in rows for number in ([1] if odd == 1 else [0, 2])]
    found = []
    for overs in rows:
        kind = _kind_with(profile, overs) if any(overs) else _kind_without(profile)
        if kind is not None:
            found.append((kind, sum(overs), overs))
    return found


def _kind_with(profile, overs):
    """The kind behind the aisle with these numbers behind, some of them above 0; or None."""
    lots = profile.lots
    met = [lot for lot, number in zip(lots, overs) if number > 0]
    if profile.word == DONE or any(lot > 0 and lot not in met for lot in lots):
        return None
    # A place that is in no lot gets one of its own by its link behind.
    return kind_from(overs, [lot if lot > 0 else -1 - place for place, lot in enumerate(lots)])


def _kind_without(profile):
    """The kind behind the aisle if no link behind is walked, or None."""
    most = max(profile.lots)
    if profile.word == NONE:
        return NONE if most == 0 else None
    return DONE if profile.word == DONE or most == 1 else None
