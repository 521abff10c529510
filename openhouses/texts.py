"""Cases, openings, papers and trees of tries written as texts."""


def case_text(case):
    """The case in lines: ways, or the only place, sites, folk, and the limit where there is one."""
    (places, ways), sites, folk, limit = case
    lines = [f"way {one} {other} {length}" for one, other, length in ways]
    if len(places) == 1:
        lines.append(f"place {places[0]}")
    lines += [f"site {place} {charge}" for place, charge in sites]
    lines += [f"folk {place} {many}" for place, many in folk]
    if limit is not None:
        lines.append(f"limit {limit}")
    return "\n".join(lines)


def opening_text(opening):
    """The opening's places with commas between."""
    return ",".join(opening)


def goings_text(ways):
    """The rows (place, house) as PLACE>HOUSE with blanks between."""
    return " ".join([f"{place}>{house}" for place, house in ways])


def prices_text(prices):
    """The prices as PLACE=PRICE with blanks between."""
    return " ".join([f"{place}={price}" for place, price in prices])


def paper_text(paper):
    """The paper's opening, goings, prices and levy, each of the four parted from the next."""
    opening, ways, prices, levy = paper
    return f"{opening_text(opening)} ; {goings_text(ways)} ; {prices_text(prices)} ; {levy}"


def tree_text(tree):
    """The tree of tries as leaf(PRICES;LEVY) or split(SITE;TREE;TREE)."""
    if tree[0] == "leaf":
        word, prices, levy = tree
        return f"leaf({prices_text(prices)};{levy})"
    word, site, first, second = tree
    return f"split({site};{tree_text(first)};{tree_text(second)})"
