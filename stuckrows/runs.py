"""Runs: instances that do their steps in turns, wait, and get stuck."""

from stuckrows.errors import InvalidNumber, InvalidSchedule, TooLarge
from stuckrows.instances import check_instances
from stuckrows.plans import Plan
from stuckrows.states import States, least_done, least_way
from stuckrows.turns import run_of
from stuckrows.waiting import stuck_of
from stuckrows.words import is_integer

MOST_LOOKED_AT = 4


def run_behind(system, instances, schedule):
    """The run behind a schedule; raises what play raises."""
    check_instances(system, instances)
    if not isinstance(schedule, (list, tuple)):
        raise InvalidSchedule(-1)
    run = run_of(system, instances)
    for place, index in enumerate(schedule):
        if not run.has_turn(index):
            raise InvalidSchedule(place)
        run.do_turn(index)
    return run


def word_of(run, index):
    """How an instance stands."""
    if run.waits(index):
        return "waits"
    return "ended" if run.has_ended(index) else "ready"


def play(system, instances, schedule):
    """The list of (done, word, blockers) of the instances behind a schedule."""
    run = run_behind(system, instances, schedule)
    return [(done, word_of(run, index), run.grants.blockers(index)) for index, done in enumerate(run.done)]


def stuck_behind(system, instances, schedule):
    """The ascending list of the instances that are stuck behind a schedule."""
    return stuck_of(run_behind(system, instances, schedule).grants.waits())


def all_states(system, instances):
    """All states of a few instances that have been checked."""
    if len(instances) > MOST_LOOKED_AT:
        raise TooLarge(MOST_LOOKED_AT)
    return States(Plan(system, instances))


def least_schedule(system, instances, *, all_of=False):
    """The least schedule behind which an instance, or all of them, are stuck; None if there is none."""
    check_instances(system, instances)
    if not isinstance(all_of, bool):
        raise InvalidNumber("all_of")
    states = all_states(system, instances)
    at = states.first_stuck(all_of)
    return None if at is None else states.schedule_to(at)


def outcomes(system, instances):
    """How many schedules that cannot go on end all instances, and how many do not."""
    check_instances(system, instances)
    return all_states(system, instances).count_ends()


def are_turns(system, instances, turns):
    """Whether a value tells for each instance a number of turns that it has."""
    if not isinstance(turns, (list, tuple)) or len(turns) != len(instances):
        return False
    for (template, _), count in zip(instances, turns):
        if not is_integer(count) or not 0 <= count <= len(system[2][template][3]) + 1:
            return False
    return True


def ways_to(system, instances, turns):
    """All states, and for each whether turns in which nobody waits lead on to these; raises what way_to raises."""
    check_instances(system, instances)
    if not are_turns(system, instances, turns):
        raise InvalidNumber("turns")
    states = all_states(system, instances)
    return (states, states.leads_to(turns))


def way_to(system, instances, turns):
    """The least list of turns in which nobody ever waits and behind which each instance has done so many."""
    states, leads = ways_to(system, instances, turns)
    return least_way(states, leads) if leads[0] else None


def least_ahead(system, instances, turns):
    """For each instance and each of its turns the fewest turns that each one has done directly before it."""
    states, leads = ways_to(system, instances, turns)
    return least_done(states, leads, turns) if leads[0] else None
