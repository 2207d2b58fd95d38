"""Texts of systems: a row for each thing that a system tells."""

from stuckrows.errors import InvalidText
from stuckrows.templates import check_system
from stuckrows.words import LONGEST_NAME, are_letters

# For the first word of each row those with which the next row can begin; "" stands for no row.
FOLLOWERS = {
    "": ("modes",),
    "modes": ("allow", "join", "fixed", "template"),
    "allow": ("allow", "join", "fixed", "template"),
    "join": ("join", "fixed", "template"),
    "fixed": ("template",),
    "template": ("param", "order", "lock", "free"),
    "param": ("param", "order", "lock", "free"),
    "order": ("order", "lock", "free"),
    "lock": ("lock", "free", "template"),
    "free": ("lock", "free", "template"),
}
# How many words such a row has at least and at most; None stands for any number.
SIZES = {
    "modes": (2, None),
    "allow": (3, 3),
    "join": (4, 4),
    "fixed": (2, None),
    "template": (2, 2),
    "param": (3, 3),
    "order": (3, 3),
    "lock": (3, 3),
    "free": (2, 2),
}
LAST = ("lock", "free")


def template_rows(template):
    """The rows of a template."""
    name, params, orders, steps = template
    rows = [f"template {name}"]
    rows.extend([f"param {param} {table}" for param, table in params])
    rows.extend([f"order {low} {high}" for low, high in orders])
    rows.extend([" ".join(step) for step in steps])
    return rows


def system_text(system):
    """The text of a system."""
    check_system(system)
    (names, allowed, joins), fixed, templates = system
    rows = [" ".join(["modes", *names])]
    rows.extend([f"allow {held} {asked}" for held, asked in allowed])
    rows.extend([f"join {first} {second} {both}" for first, second, both in joins])
    if fixed:
        rows.append(" ".join(["fixed", *fixed]))
    for template in templates:
        rows.extend(template_rows(template))
    return "\n".join(rows)


def can_follow(before, words):
    """Whether a row of these words, all of them names, can stand behind one that begins with the word before."""
    if words[0] not in FOLLOWERS[before]:
        return False
    least, most = SIZES[words[0]]
    return len(words) >= least and (most is None or len(words) <= most)


def has_letters_only(text):
    """Whether there is nothing in a text but small letters, blanks and line feeds."""
    letters = text.replace(" ", "").replace("\n", "")
    return letters.isascii() and letters.isalpha() and letters.islower()


def words_of(text):
    """The words of all rows of a text; raises InvalidText if its form is wrong."""
    if not isinstance(text, str):
        raise InvalidText(-1)
    only_letters = has_letters_only(text)
    rows = []
    before = ""
    for place, row in enumerate(text.split("\n")):
        words = row.split(" ")
        # Of letters the words of a short row are names if none is empty.
        are_good = all(words) if only_letters and len(row) <= LONGEST_NAME else are_letters(words)
        if not are_good or not can_follow(before, words):
            raise InvalidText(place)
        before = words[0]
        rows.append(words)
    if before not in LAST:
        raise InvalidText(len(rows))
    return rows


def parts_of(rows):
    """The words behind the first ones of all rows, by these: a dict for the head, and a list of one for each template.

    Steps have their first words, too, and stand together.
    """
    head = {"modes": [], "allow": [], "join": [], "fixed": []}
    templates = []
    part = head
    for words in rows:
        word = words[0]
        if word in LAST:
            part["steps"].append(tuple(words))
            continue
        if word == "template":
            part = {"template": [], "param": [], "order": [], "steps": []}
            templates.append(part)
        part[word].append(tuple(words[1:]))
    return (head, templates)


def read_template(part):
    """The template of its parts."""
    return (part["template"][0][0], tuple(part["param"]), tuple(part["order"]), tuple(part["steps"]))


def read_system(text):
    """The system of a text; raises InvalidText, and the errors of a system."""
    head, parts = parts_of(words_of(text))
    modes = (head["modes"][0], tuple(head["allow"]), tuple(head["join"]))
    fixed = head["fixed"][0] if head["fixed"] else ()
    system = (modes, fixed, tuple([read_template(part) for part in parts]))
    check_system(system)
    return system
