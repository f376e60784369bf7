"""Shadows: where the plain machine could be, by what a run has told so far.

A SHADOW is a tuple (stand, ahead): a stand of the plain machine that has done what is done in the run, and perhaps
something that has begun there and is not done yet; ahead tells for each hand what such a call of it tells in the
stand, or None. A SPOT is a tuple (begun, numbers): what has begun in the run and is not done, ascending, each told as
("call", place of the hand) or ("end", place of the process), and the numbers of all shadows that could be. A run is
like the plain machine as long as there is one. Shadows and spots are told by numbers, each having one of its own.
"""

from belowall.stands import Cast, can_end, ended_behind, first_stand, has_ended, ways_of_call, with_item


class Shadows:
    """The spots of a work, and where each step leads from there."""

    def __init__(self, work):
        self.cast = Cast(work)
        self.shadow_rows = []
        self.shadow_numbers = {}
        self.spot_rows = []
        self.spot_numbers = {}
        # What was worked out already: by (number of a shadow, what has begun), and by (number of a spot, step).
        self.ways_known = {}
        self.spots_known = {}

    def number_of_shadow(self, shadow):
        """Return the number of a shadow."""
        if shadow not in self.shadow_numbers:
            self.shadow_numbers[shadow] = len(self.shadow_rows)
            self.shadow_rows.append(shadow)
        return self.shadow_numbers[shadow]

    def number_of_spot(self, spot):
        """Return the number of a spot."""
        if spot not in self.spot_numbers:
            self.spot_numbers[spot] = len(self.spot_rows)
            self.spot_rows.append(spot)
        return self.spot_numbers[spot]

    def first(self):
        """Return the number of the spot at the beginning."""
        shadow = (first_stand(self.cast), (None,) * len(self.cast.row_of_hands))
        return self.number_of_spot(((), (self.number_of_shadow(shadow),)))

    def worked_out_ways(self, number, thing):
        """Work out the numbers of the shadows in which a thing that has begun is done behind a shadow."""
        stand, ahead = self.shadow_rows[number]
        sort, at = thing
        if sort == "end":
            behind = [(ended_behind(stand, at), ahead)] if can_end(self.cast, stand, at) else []
        elif ahead[at] is not None:
            behind = []
        else:
            ways = ways_of_call(self.cast, stand, at)
            behind = [(other, with_item(ahead, at, telling)) for _, telling, other in ways]
        return [self.number_of_shadow(shadow) for shadow in behind]

    def ways(self, number, thing):
        """Return the numbers of the shadows in which a thing that has begun is done behind a shadow."""
        if (number, thing) not in self.ways_known:
            self.ways_known[number, thing] = self.worked_out_ways(number, thing)
        return self.ways_known[number, thing]

    def closed(self, begun, numbers):
        """Return the dict of all shadows to which things that have begun lead from these."""
        found = {shadow: True for shadow in numbers}
        rest = list(numbers)
        while rest:
            number = rest.pop()
            for thing in begun:
                for other in self.ways(number, thing):
                    if other not in found:
                        found[other] = True
                        rest.append(other)
        return found

    def settled(self, number, thing, telling):
        """Return the number of a shadow where a thing is done in the run, too, or None if it tells otherwise."""
        stand, ahead = self.shadow_rows[number]
        sort, at = thing
        if sort == "end":
            return number if has_ended(self.cast, stand, at) else None
        if ahead[at] != telling:
            return None
        return self.number_of_shadow((stand, with_item(ahead, at, None)))

    def worked_out_spot(self, spot, thing, telling):
        """Work out the number of the spot behind a step."""
        begun, numbers = self.spot_rows[spot]
        if thing not in begun:
            begun = tuple(sorted([*begun, thing]))
            numbers = sorted(self.closed(begun, numbers))
        if telling is not None:
            begun = tuple([other for other in begun if other != thing])
            settled = [self.settled(number, thing, telling) for number in numbers]
            numbers = sorted(set([number for number in settled if number is not None]))
        return self.number_of_spot((begun, tuple(numbers))) if numbers else None

    def behind(self, spot, thing, telling):
        """Return the number of the spot behind a step of a thing, or None if the run is not like any more.

        Telling is what the call tells, any string of an end, or None if the step is not the last one.
        """
        key = (spot, thing, telling)
        if key not in self.spots_known:
            self.spots_known[key] = self.worked_out_spot(spot, thing, telling)
        return self.spots_known[key]
