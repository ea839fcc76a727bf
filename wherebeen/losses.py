"""The homes of worths, and what elements lose, in a good house."""


class Losses:
    """Homes and elements, told by the numbers that a guide of a good house has for worths.

    An element is a tuple (spot, number, waiting) here: its home in the least form, and the ascending tuple of the roads
    that wait.
    """

    def __init__(self, guide):
        self._guide = guide
        self._homes = {}

    def _found_homes(self, spot, number):
        """The dict from the forms of all homes of a worth to its numbers there."""
        homes = {spot: number}
        waiting = [spot]
        while waiting:
            here = waiting.pop()
            for near in self._guide.near[here]:
                there = self._guide.step(here, near, homes[here])
                if near not in homes and self._guide.step(near, here, there) == homes[here]:
                    homes[near] = there
                    waiting.append(near)
        return {home: homes[home] for home in sorted(homes)}

    def homes_for(self, spot, number):
        """The dict from the forms of all homes of a worth, ascending, to its numbers there."""
        if (spot, number) not in self._homes:
            self._homes[(spot, number)] = self._found_homes(spot, number)
        return self._homes[(spot, number)]

    def element_for(self, spot, number, waiting):
        """The element of a worth in any one of its homes, and roads that wait."""
        homes = self.homes_for(spot, number)
        least = min(list(homes))
        return (least, homes[least], waiting)

    def is_near(self, homes, road):
        """Whether a road has an end in one of some homes."""
        return self._guide.house[1][road][0] in homes or self._guide.house[1][road][1] in homes

    def lose(self, element, road):
        """What an element becomes by the loss of a road."""
        spot, number, waiting = element
        left = sorted([*waiting, road]) if road not in waiting else list(waiting)
        homes = self.homes_for(spot, number)
        ready = [index for index in left if self.is_near(homes, index)]
        while ready:
            left.remove(ready[0])
            one, other = self._guide.house[1][ready[0]][:2]
            here, spot = (one, other) if one in homes else (other, one)
            number = self._guide.step(here, spot, homes[here])
            homes = self.homes_for(spot, number)
            ready = [index for index in left if self.is_near(homes, index)]
        return self.element_for(spot, number, tuple(left))
