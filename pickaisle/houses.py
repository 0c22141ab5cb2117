"""Houses: parallel aisles, joined by cross ways at two or three heights."""

from pickaisle.errors import InvalidHouse, InvalidLink, InvalidPlace, TooLarge

MOST_STRETCHES = 2
MOST_GAPS = 11
LONGEST = 40
MOST_CLOSED = 200


class House:
    """A warehouse with its closed links; it does not change."""

    def __init__(self, lengths, gaps, closed):
        if not 1 <= len(lengths) <= MOST_STRETCHES or not _are_long(lengths):
            raise InvalidHouse("a house has 1 or 2 stretches with lengths from 1 to 40")
        if len(gaps) > MOST_GAPS or not _are_long(gaps):
            raise InvalidHouse("a house has at most 11 gaps with widths from 1 to 40")
        self._lengths = list(lengths)
        self._gaps = list(gaps)
        self._crosses = _cross_heights(lengths)
        self._top = sum(lengths)
        self._closed = {link: True for link in closed}
        if len(closed) > MOST_CLOSED or len(self._closed) < len(closed):
            raise InvalidHouse("a house has at most 200 closed links, all different")
        if not all(self.is_link(link) for link in closed):
            raise InvalidHouse("a closed link is no link of the house")

    @property
    def lengths(self):
        """The lengths of the stretches from below."""
        return list(self._lengths)

    @property
    def gaps(self):
        """The widths of the gaps from the left."""
        return list(self._gaps)

    @property
    def closed(self):
        """The closed links, ascending."""
        return sorted(self._closed)

    @property
    def top(self):
        """The greatest height."""
        return self._top

    @property
    def aisles(self):
        """The number of aisles."""
        return len(self._gaps) + 1

    def crosses(self):
        """Return the cross heights, ascending."""
        return list(self._crosses)

    def is_place(self, place):
        """Tell whether the tuple is a place of the house."""
        aisle, height = place
        return 0 <= aisle <= len(self._gaps) and 0 <= height <= self._top

    def is_cross(self, place):
        """Tell whether the tuple is a cross place of the house."""
        return self.is_place(place) and place[1] in self._crosses

    def is_link(self, link):
        """Tell whether the tuple is a link of the house, closed or not."""
        word, aisle, height = link
        if word == "up":
            return 0 <= aisle <= len(self._gaps) and 0 <= height < self._top
        return word == "over" and 0 <= aisle < len(self._gaps) and height in self._crosses

    def is_closed(self, link):
        """Tell whether the tuple is a closed link of the house."""
        return link in self._closed

    def places(self):
        """Return all places, ascending."""
        return [(aisle, height) for aisle in range(self.aisles) for height in range(self._top + 1)]

    def walked_links(self):
        """Return all links that are not closed, ascending."""
        overs = [("over", aisle, height) for aisle in range(len(self._gaps)) for height in self._crosses]
        ups = [("up", aisle, height) for aisle in range(self.aisles) for height in range(self._top)]
        return [link for link in overs + ups if link not in self._closed]

    def ends_of(self, link):
        """Return the two places that the link joins, ascending."""
        if not self.is_link(link):
            raise InvalidLink("no link of the house")
        word, aisle, height = link
        if word == "up":
            return ((aisle, height), (aisle, height + 1))
        return ((aisle, height), (aisle + 1, height))

    def length_of(self, link):
        """Return the length of the link."""
        if not self.is_link(link):
            raise InvalidLink("no link of the house")
        word, aisle, _ = link
        if word == "up":
            return 1
        return self._gaps[aisle]

    def link_between(self, one, other):
        """Return the link that joins the two places and is not closed, or None."""
        aisle, height = min(one, other)
        farther = max(one, other)
        if farther == (aisle, height + 1):
            link = ("up", aisle, height)
        elif farther == (aisle + 1, height):
            link = ("over", aisle, height)
        else:
            return None
        if self.is_link(link) and not self.is_closed(link):
            return link
        return None

    def beside(self, place):
        """Return the tuples of each place that is joined to this one and the length of the link."""
        if not self.is_place(place):
            raise InvalidPlace(place)
        aisle, height = place
        around = [(aisle - 1, height), (aisle, height - 1), (aisle, height + 1), (aisle + 1, height)]
        joined = []
        for other in around:
            link = self.link_between(place, other)
            if link is not None:
                joined.append((other, self.length_of(link)))
        return joined

    def with_closed(self, link):
        """Return the house with this link closed, too."""
        if not self.is_link(link) or self.is_closed(link):
            raise InvalidLink("no link of the house that could be closed")
        if len(self._closed) >= MOST_CLOSED:
            raise TooLarge("200 links are closed")
        return House(self._lengths, self._gaps, self.closed + [link])

    def without_closed(self, link):
        """Return the house with this link not closed."""
        if not self.is_closed(link):
            raise InvalidLink("no closed link of the house")
        return House(self._lengths, self._gaps, [other for other in self._closed if other != link])

    def same_as(self, other):
        """Tell whether the other house has the same lengths, gaps and closed links."""
        return (self.lengths, self.gaps, self.closed) == (other.lengths, other.gaps, other.closed)


def _are_long(numbers):
    """Tell whether all numbers may be lengths of stretches or widths of gaps."""
    return all(1 <= number <= LONGEST for number in numbers)


def _cross_heights(lengths):
    """The heights of the ends of the stretches, ascending."""
    heights = [0]
    for length in lengths:
        heights.append(heights[-1] + length)
    return heights
