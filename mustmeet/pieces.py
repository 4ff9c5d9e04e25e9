"""Drawings without meetings cut along their cords, and the pieces that come of it."""

from mustmeet.errors import NoCut
from mustmeet.letters import contrary
from mustmeet.meetings import corners, count_meetings, strands_at
from mustmeet.words import ring


def count_strands(yard, drawing):
    return dict([(end, len(strands_at(yard, drawing, end))) for end in yard])


def all_mouths(strands):
    # A mouth is one end of a strip: the end of its band, and how many strands come ahead of it there, going round.
    told = []
    for end, many in strands.items():
        told.extend([(end, number) for number in range(many + 1)])
    return told


def chord_ends(every):
    ends = {}
    for corner in every:
        ends[corner[2]] = corner[3]
        ends[corner[3]] = corner[2]
    return ends


def mouths_onward(mouths, every):
    # Where a region comes to a point it goes on along the corner's chord, behind whose other point its next mouth is.
    onward = {}
    ahead = []
    behind = []
    for number, mouth in enumerate(mouths):
        later = mouths[(number + 1) % len(mouths)]
        onward[mouth] = later
        if later[1] > 0:
            ahead.append(mouth)
            behind.append(later)
    for start, end in chord_ends(every).items():
        onward[ahead[start]] = behind[end]
    return onward


def mouths_across(mouths, strands):
    across = {}
    for mouth in mouths:
        # What comes first at the one end of a band comes last at the other.
        across[mouth] = (contrary(mouth[0]), strands[mouth[0]] - mouth[1])
    return across


def regions_of(mouths, onward):
    seen = {}
    regions = []
    for start in mouths:
        region = []
        mouth = start
        while mouth not in seen:
            seen[mouth] = True
            region.append(mouth)
            mouth = onward[mouth]
        if region:
            regions.append(region)
    return regions


# The floor and the bands, cut along the cords of a drawing without meetings.
class Cut:
    def __init__(self, yard, drawing):
        strands = count_strands(yard, drawing)
        mouths = all_mouths(strands)
        self.onward = mouths_onward(mouths, corners(yard, drawing))
        self.across = mouths_across(mouths, strands)
        self.regions = regions_of(mouths, self.onward)
        self.region_of = {}
        for number, region in enumerate(self.regions):
            for mouth in region:
                self.region_of[mouth] = number


def joined(cut, start):
    # Each region that is joined to the first one, with the mouth of the strip by which it was come to, there None.
    found = {start: None}
    waiting = [start]
    while waiting:
        region = waiting.pop()
        for mouth in cut.regions[region]:
            near = cut.region_of[cut.across[mouth]]
            if near not in found:
                found[near] = mouth
                waiting.append(near)
    return found


def all_joined(cut):
    seen = {}
    told = []
    for number in range(len(cut.regions)):
        if number not in seen:
            found = joined(cut, number)
            seen.update(found)
            told.append(found)
    return told


def next_mouth(cut, kept, mouth):
    later = cut.onward[mouth]
    while later not in kept:
        later = cut.onward[later]
    return later


def rims_along(cut, kept):
    # The rims of the regions with some of their strips alone; kept has both mouths of each of these.
    seen = {}
    told = []
    for start in kept:
        letters = []
        place = start
        while place not in seen:
            seen[place] = True
            mouth = next_mouth(cut, kept, place)
            letters.append(mouth[0])
            place = cut.across[mouth]
        if letters:
            told.append(ring("".join(letters)))
    return sorted(told)


def piece_told(cut, found):
    kept = {}
    for region in found:
        for mouth in cut.regions[region]:
            kept[mouth] = True
    rims = rims_along(cut, kept)
    strips = len(kept) // 2
    return ((2 - len(rims) - len(found) + strips) // 2, tuple(rims))


def pieces(yard, drawing):
    if count_meetings(corners(yard, drawing)) > 0:
        raise NoCut()
    cut = Cut(yard, drawing)
    return sorted([piece_told(cut, found) for found in all_joined(cut)])
