"""Texts of systems: a row for each thing that a system tells."""

from stuckrows.errors import InvalidText
from stuckrows.templates import check_system
from stuckrows.words import is_name

# For the first word of each row those with which the next row can begin; "" stands for no row.
FOLLOWERS = {
    "": ("modes",),
    "modes": ("allow", "join", "fixed", "template"),
    "allow": ("allow", "join", "fixed", "template"),
    "join": ("join", "fixed", "template"),
    "fixed": ("template",),
    "template": ("param", "order", "lock", "free"),
    "param": ("param", "order", "lock", "free"),
    "order": ("order", "lock", "free"),
    "lock": ("lock", "free", "template"),
    "free": ("lock", "free", "template"),
}
# How many words such a row has at least and at most; None stands for any number.
SIZES = {
    "modes": (2, None),
    "allow": (3, 3),
    "join": (4, 4),
    "fixed": (2, None),
    "template": (2, 2),
    "param": (3, 3),
    "order": (3, 3),
    "lock": (3, 3),
    "free": (2, 2),
}
LAST = ("lock", "free")


def row_of(word, names):
    """The row that begins with a word and goes on with names."""
    return " ".join([word] + list(names))


def template_rows(template):
    """The rows of a template."""
    name, params, orders, steps = template
    rows = [row_of("template", [name])]
    rows.extend([row_of("param", pair) for pair in params])
    rows.extend([row_of("order", pair) for pair in orders])
    rows.extend([" ".join(step) for step in steps])
    return rows


def system_text(system):
    """The text of a system."""
    check_system(system)
    (names, allowed, joins), fixed, templates = system
    rows = [row_of("modes", names)]
    rows.extend([row_of("allow", pair) for pair in allowed])
    rows.extend([row_of("join", triple) for triple in joins])
    if fixed:
        rows.append(row_of("fixed", fixed))
    for template in templates:
        rows.extend(template_rows(template))
    return "\n".join(rows)


def can_follow(before, words):
    """Whether a row of these words can stand behind one that begins with the word before."""
    if not all(is_name(word) for word in words) or words[0] not in FOLLOWERS[before]:
        return False
    least, most = SIZES[words[0]]
    return len(words) >= least and (most is None or len(words) <= most)


def words_of(text):
    """The words of all rows of a text; raises InvalidText if its form is wrong."""
    if not isinstance(text, str):
        raise InvalidText(-1)
    rows = []
    before = ""
    for place, row in enumerate(text.split("\n")):
        words = row.split(" ")
        if not can_follow(before, words):
            raise InvalidText(place)
        before = words[0]
        rows.append(words)
    if before not in LAST:
        raise InvalidText(len(rows))
    return rows


def behind(rows, word):
    """A tuple with what stands behind this word, for all rows that begin with it."""
    return tuple([tuple(words[1:]) for words in rows if words[0] == word])


def read_template(rows):
    """The template of its rows."""
    steps = [tuple(words) for words in rows if words[0] in LAST]
    return (rows[0][1], behind(rows, "param"), behind(rows, "order"), tuple(steps))


def read_system(text):
    """The system of a text; raises InvalidText, and the errors of a system."""
    rows = words_of(text)
    starts = [place for place, words in enumerate(rows) if words[0] == "template"]
    ends = starts[1:] + [len(rows)]
    templates = tuple([read_template(rows[start:end]) for start, end in zip(starts, ends)])
    head = rows[:starts[0]]
    fixed = behind(head, "fixed")
    modes = (tuple(head[0][1:]), behind(head, "allow"), behind(head, "join"))
    system = (modes, fixed[0] if fixed else (), templates)
    check_system(system)
    return system
