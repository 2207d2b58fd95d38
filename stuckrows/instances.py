"""Instances: templates with keys for their params, and the rows that they lock."""

from stuckrows.errors import InvalidInstances
from stuckrows.templates import are_keys, check_system
from stuckrows.words import is_index, is_tuple

MOST_INSTANCES = 12


def is_instance(system, entry):
    """Whether a value is an instance of a system."""
    if not is_tuple(entry, 2, 2) or not is_index(entry[0], len(system[2])):
        return False
    return are_keys(system[2][entry[0]], entry[1])


def check_instances(system, instances):
    """Raises the errors of a system and of instances of it."""
    check_system(system)
    if not isinstance(instances, (list, tuple)) or not 1 <= len(instances) <= MOST_INSTANCES:
        raise InvalidInstances(-1)
    for index, entry in enumerate(instances):
        if not is_instance(system, entry):
            raise InvalidInstances(index)


def items_of(template, keys):
    """A dict from the params of a template to the rows that they are with these keys."""
    return {param: (table, key) for (param, table), key in zip(template[1], keys)}


def steps_of(system, instance):
    """The steps of an instance, with its rows in place of the params."""
    template = system[2][instance[0]]
    items = items_of(template, instance[1])
    return [(step[0], items.get(step[1], step[1])) + step[2:] for step in template[3]]
