"""Locks that are let go early: who is ahead of whom, and what does not come as if one ran after another."""

from stuckrows.disorders import find_disorder
from stuckrows.errors import InvalidSchedule
from stuckrows.instances import check_instances, is_instance
from stuckrows.orderly import check_orderly
from stuckrows.tapes import Tape
from stuckrows.turns import run_of
from stuckrows.words import is_integer, is_tuple


def pairs_behind(system, instances, schedule):
    """The ascending list of all pairs of which the first is ahead; raises what ahead_pairs raises."""
    check_instances(system, instances)
    if not isinstance(schedule, (list, tuple)):
        raise InvalidSchedule(-1)
    tape = Tape(run_of(system, instances))
    for place, index in enumerate(schedule):
        if not tape.run.has_turn(index):
            raise InvalidSchedule(place)
        tape.do_turn(index)
    indexes = list(range(len(instances)))
    return [(first, other) for first in indexes for other in indexes if tape.is_ahead(first, other)]


def ahead_pairs(system, instances, schedule):
    """The ascending list of all pairs of instances of which the first is ahead of the other one."""
    return pairs_behind(system, instances, schedule)


def first_of(left, pairs):
    """The least of some instances that none of them is ahead of, None if there is none."""
    behind = {other: True for first, other in pairs if first in left}
    for index in left:
        if index not in behind:
            return index
    return None


def order_of(system, instances, schedule):
    """The least list of all instances with each before those that it is ahead of; None if there is none."""
    pairs = pairs_behind(system, instances, schedule)
    order = []
    left = list(range(len(instances)))
    while left:
        first = first_of(left, pairs)
        if first is None:
            return None
        left.remove(first)
        order.append(first)
    return order


def can_be_disorderly(system):
    """Whether there is a schedule of some instances, any number of each template, that is not orderly."""
    check_orderly(system)
    return find_disorder(system) is not None


def shortest_disorder(system):
    """A disorder with as few instances as possible, None if there is none."""
    check_orderly(system)
    return find_disorder(system)


def fewest_disorderly(system):
    """The number of instances of a shortest disorder, None if there is none."""
    check_orderly(system)
    found = find_disorder(system)
    return None if found is None else len(found[0])


def are_many_instances(system, value):
    """Whether a value is a list or tuple of two or more instances, however many."""
    if not isinstance(value, (list, tuple)) or len(value) < 2:
        return False
    return all(is_instance(system, entry) for entry in value)


def halted_tape(system, instances, turns):
    """The tape of a first instance that is halted behind so many turns; None if somebody has to wait."""
    tape = Tape(run_of(system, instances))
    counts = [len(steps) + 1 for steps in tape.run.steps]
    ahead = min(turns, counts[0])
    schedule = [0] * ahead
    for index in range(1, len(counts)):
        schedule.extend([index] * counts[index])
    schedule.extend([0] * (counts[0] - ahead))
    for index in schedule:
        tape.do_turn(index)
        if tape.run.waits(index):
            return None
    return tape


def shows_disorder(system, disorder):
    """Whether a value is a disorder of the system."""
    check_orderly(system)
    if not is_tuple(disorder, 2, 2):
        return False
    instances, turns = disorder
    if not is_integer(turns) or turns < 1 or not are_many_instances(system, instances):
        return False
    tape = halted_tape(system, instances, turns)
    if tape is None:
        return False
    last = len(instances) - 1
    return tape.is_ahead(last, 0) and all(tape.is_ahead(index, index + 1) for index in range(last))
