"""Cases, openings, papers and trees of tries read from texts, by their forms; else NoText."""

from openhouses.cases import case_of
from openhouses.errors import NoCase, NoMap, NoText
from openhouses.maps import map_of
from openhouses.names import are_rising, is_name
from openhouses.wholes import is_written

# What stands behind the first word of each kind of lines.
FORMS = {
    "way": ("name", "name", "number"),
    "place": ("name",),
    "site": ("name", "number"),
    "folk": ("name", "number"),
    "limit": ("number",),
}
# The kinds of lines that each kind may stand next behind; any of them may be the first one.
AHEAD = {
    "way": ("way",),
    "place": (),
    "site": ("way", "place", "site"),
    "folk": ("way", "place", "site", "folk"),
    "limit": ("way", "place", "site", "folk"),
}
DEEPEST = 30


def read_case(text):
    """The case that is written there; else NoText with the line at fault."""
    need(isinstance(text, str))
    lines = [line.split(" ") for line in text.split("\n")]
    for at, words in enumerate(lines):
        if not has_form(words) or (at > 0 and lines[at - 1][0] not in AHEAD[words[0]]):
            raise NoText(at)
    try:
        return case_by(rows_by_kind(lines))
    except (NoMap, NoCase):
        raise NoText(len(lines)) from None


def has_form(words):
    """True where the words are a line of some kind, by its form alone, else False."""
    form = FORMS.get(words[0])
    if form is None or len(words) != len(form) + 1:
        return False
    return all([is_name(word) if part == "name" else is_written(word) for word, part in zip(words[1:], form)])


def rows_by_kind(lines):
    """A dict from each kind of lines to the list of tuples of what stands there, numbers as numbers."""
    rows = {kind: [] for kind in FORMS}
    for kind, *words in lines:
        row = [word if part == "name" else int(word) for word, part in zip(words, FORMS[kind])]
        rows[kind].append(tuple(row))
    return rows


def case_by(rows):
    """The case that the rows make, else NoMap or NoCase."""
    places = [row[0] for row in rows["place"] + rows["way"]] + [row[1] for row in rows["way"]]
    web = map_of(sorted(set(places)), rows["way"])
    return case_of(web, rows["site"], rows["folk"], rows["limit"][0][0] if rows["limit"] else None)


def need(right):
    """NoText where it isn't right; of texts without lines the line is 0."""
    if not right:
        raise NoText(0)


def read_opening(text):
    """The opening that is written there, of its form alone; else NoText."""
    need(isinstance(text, str))
    places = text.split(",")
    need(are_rising(places))
    return tuple(places)


def read_paper(text):
    """The paper that is written there, of its form alone; else NoText."""
    need(isinstance(text, str))
    parts = text.split(" ; ")
    need(len(parts) == 4)
    opening, ways, prices, levy = parts
    return (read_opening(opening), read_goings(ways), read_prices(prices), read_number(levy))


def read_goings(text):
    """The tuple of tuples (place, house) that is written there, else NoText."""
    rows = read_rows(text, ">")
    need(all([is_name(house) for place, house in rows]))
    return rows


def read_prices(text):
    """The prices that are written there, else NoText."""
    return tuple([(place, read_number(word)) for place, word in read_rows(text, "=")])


def read_rows(text, mark):
    """The tuple of tuples (place, word) with the mark between, by place, each once, one at least; else NoText."""
    rows = tuple([tuple(word.split(mark)) for word in text.split(" ")])
    need(all([len(row) == 2 for row in rows]))
    need(are_rising([place for place, word in rows]))
    return rows


def read_number(word):
    """The number that is written there, else NoText."""
    need(is_written(word))
    return int(word)


def read_tree(text):
    """The tree of tries that is written there, of its form alone; else NoText."""
    need(isinstance(text, str))
    tree, end = tree_at(text, 0, 1)
    need(end == len(text))
    return tree


def tree_at(text, at, depth):
    """A tuple of the tree that begins there, so deep in the whole one, and where it ends; else NoText."""
    need(depth <= DEEPEST)
    if text.startswith("leaf(", at):
        return leaf_at(text, at + len("leaf("))
    site, at = part_at(text, behind(text, at, "split("), ";")
    need(is_name(site))
    first, at = tree_at(text, at, depth + 1)
    second, at = tree_at(text, behind(text, at, ";"), depth + 1)
    return (("split", site, first, second), behind(text, at, ")"))


def leaf_at(text, at):
    """A tuple of the leaf whose prices begin there, and where it ends; else NoText."""
    prices, at = part_at(text, at, ";")
    levy, at = part_at(text, at, ")")
    return (("leaf", read_prices(prices), read_number(levy)), at)


def part_at(text, at, mark):
    """A tuple of what stands from there up to the next such mark, and where the mark ends; else NoText."""
    end = text.find(mark, at)
    need(end >= 0)
    return (text[at:end], end + len(mark))


def behind(text, at, mark):
    """Where the mark ends that begins there, else NoText."""
    need(text.startswith(mark, at))
    return at + len(mark)
