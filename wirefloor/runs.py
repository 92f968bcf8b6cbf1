"""Boxes of spots, and runs of spots that are marked alike."""


def between(one, two):
    return list(range(min(one, two), max(one, two) + 1))


def box(one, two):
    spots = []
    for layer in between(one[0], two[0]):
        for row in between(one[1], two[1]):
            spots.extend([(layer, row, column) for column in between(one[2], two[2])])
    return spots


def goes_on(run, spot, mark):
    first, last, alike = run
    return mark == alike and spot == (last[0], last[1], last[2] + 1)


def runs(marks):
    found = []
    for spot in sorted(marks):
        if len(found) > 0 and goes_on(found[-1], spot, marks[spot]):
            found[-1] = (found[-1][0], spot, marks[spot])
        else:
            found.append((spot, spot, marks[spot]))
    return found
