"""From which side the cords of a drawing come where they meet."""

from mustmeet.meetings import corners, corners_meet


def side(corner, other, many):
    # There are so many points round the rim.
    goes_out = (corner[3] - corner[2]) % many
    comes_in = (other[2] - corner[2]) % many
    return 1 if comes_in < goes_out else -1


def sides(yard, drawing, c, d):
    every = corners(yard, drawing)
    others = [corner for corner in every if corner[0] == d]
    total = 0
    for corner in every:
        if corner[0] == c:
            total += sum([side(corner, other, 2 * len(every)) for other in others if corners_meet(corner, other)])
    return total
