"""Pieces: the labs of those machines of a lab that hang together by rows."""

from leakpost.lab import Lab


def rows_named(lab, lot):
    """The places, rising, of the rows that moves of these machines name; the lot has the machines' places."""
    return sorted(set([step[3] for step in lab.steps if step[0] in lot and step[3] >= 0]))


def lots(lab):
    """The lists of places of machines that hang together, by their first ones, each rising."""
    found = []
    for machine in range(len(lab.machine_pairs)):
        rows = rows_named(lab, [machine])
        lot = [machine]
        apart = []
        # Lots have no row in common, so which ones this machine joins is told by its own rows alone.
        for other in found:
            if any([row in rows for row in rows_named(lab, other)]):
                lot = other + lot
            else:
                apart.append(other)
        found = apart + [sorted(lot)]
    return sorted(found)


def piece(lab, lot):
    """The lab of these machines, the rows that they name, and their moves."""
    machines = [lab.machine_pairs[machine] for machine in lot]
    rows = [lab.row_pairs[row] for row in rows_named(lab, lot)]
    return Lab(machines, rows, [move for move, step in zip(lab.whole_moves, lab.steps) if step[0] in lot])


def pieces(lab):
    """The labs of the lots, then one for each row that no move names."""
    found = lots(lab)
    named = [step[3] for step in lab.steps]
    alone = [pair for row, pair in enumerate(lab.row_pairs) if row not in named]
    return [piece(lab, lot) for lot in found] + [Lab([], [pair]) for pair in alone]
