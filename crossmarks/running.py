"""Going through a program, line by line, with whatever worker does its lines."""

from crossmarks.errors import NoCase, NoThing, NoWeight


def done_by(worker, line):
    """What a worker tells for a line: a list of one thing, or of none where the line changes its case."""
    word = line[0]
    if word == "weight":
        return [worker.weight()]
    if word == "carries":
        return [worker.carried(line[1], line[2])]
    if word == "lot":
        return [worker.lot()]
    if word == "see":
        worker.see(line[1], line[2], line[3])
    elif word == "forget":
        worker.forget(line[1], line[2])
    else:
        worker.gap(line[1], line[2])
    return []


def told_by(worker, line):
    """As done_by, with what is told where the line can't be done, or the case can't be."""
    try:
        return done_by(worker, line)
    except (NoCase, NoThing):
        return ["no"]
    except NoWeight:
        return ["none"]


def gone_through(worker, program):
    """The list of all that a worker tells for a program."""
    told = []
    for line in program:
        told.extend(told_by(worker, line))
    return told
