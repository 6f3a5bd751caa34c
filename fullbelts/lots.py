"""Lots: names that the same renamings leave; and deals of the belts to them."""

from fullbelts.pieces import check_size
from fullbelts.walks import renamings


def lots(program, number):
    """The ascending list of the triples (names, span, single) of the lots of a piece."""
    rows = renamings(program, number)
    # Ascending names are the least row of them: the renaming that leaves all.
    names = rows[0]
    left_by = {}
    for at, name in enumerate(names):
        left_by.setdefault(tuple([row[at] == name for row in rows]), []).append(name)
    return sorted([told_lot(names, rows, lot) for lot in left_by.values()])


def told_lot(names, rows, lot):
    """The triple of a lot, which is a list of names."""
    at = names.index(lot[0])
    span = len(set([row[at] for row in rows]))
    return (tuple(lot), span, is_single(names, rows, lot))


def is_single(names, rows, lot):
    """Whether the renamings lead the lot to itself, and are powers of one of them there."""
    places = [names.index(name) for name in lot]
    parts = list({tuple([row[at] for at in places]): True for row in rows})
    if not all([name in lot for part in parts for name in part]):
        return False
    return any([many_powers(dict(zip(lot, part))) == len(parts) for part in parts])


def many_powers(turn):
    """How many unlike powers a renaming has."""
    many = 1
    become = dict(turn)
    while not all([become[name] == name for name in become]):
        become = {name: turn[become[name]] for name in become}
        many += 1
    return many


def deal(program, machine, number):
    """The least deal of a machine's belts to the lots of a piece, or None."""
    check_size(program, machine)
    found = lots(program, number)
    if not all([lot[2] for lot in found]):
        return None
    return least_deal(machine.belts, [lot[1] for lot in found], [len(lot[0]) for lot in found])


def least_deal(lengths, spans, rest):
    """The least tuple of a lot for each belt; rest tells how many names of each lot are to be dealt."""
    if not lengths:
        return ()
    length = lengths[0]
    for lot, span in enumerate(spans):
        if length % span == 0 and length <= rest[lot]:
            behind = [many - length if other == lot else many for other, many in enumerate(rest)]
            tail = least_deal(lengths[1:], spans, behind)
            if tail is not None:
                return (lot,) + tail
    return None
