"""Rows of one adviser for each turn that change but so often: how little such a row can be charged, and a best one."""

from heedwise.turns import charge


def least_ahead(left, ahead, adviser):
    stays = ahead[left][adviser]
    if left == 0:
        return stays
    return min(stays, min(ahead[left - 1]))


def sums_with(left, ahead, said, so):
    return tuple([least_ahead(left, ahead, adviser) + charge(what, so) for adviser, what in enumerate(said)])


def sums_behind(ahead, said, so):
    return tuple([sums_with(left, ahead, said, so) for left in range(len(ahead))])


def row_table(many, turns, changes):
    table = []
    sums = ((0,) * many,) * (changes + 1)
    for said, so in turns:
        sums = sums_behind(sums, said, so)
        table.append(sums)
    return tuple(table)


def place_of_least(sums):
    return sums.index(min(sums))


def row_back(table, changes):
    left = changes
    adviser = place_of_least(table[-1][left])
    back = [adviser]
    for sums in reversed(table[:-1]):
        # With one change less the same adviser has no lesser sum: so who is less is another one.
        if left > 0 and min(sums[left - 1]) < sums[left][adviser]:
            left = left - 1
            adviser = place_of_least(sums[left])
        back.append(adviser)
    return back


def best_row(many, turns, changes):
    table = row_table(many, turns, changes)
    if len(table) == 0:
        return ((), 0)
    return (tuple(reversed(row_back(table, changes))), min(table[-1][changes]))
