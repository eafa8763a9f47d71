"""The definitions of the document word by word, for the tests to compare with, and samples.

Nothing here uses what it is compared with: of the package only the classes
of the dependencies, to make samples and to ask of which kind one is.
"""
import itertools

from followsortable.dependency import Fd, Jd, Mvd


def subsets(columns):
    """All sets within a list of columns, as ascending tuples."""
    columns = sorted(set(columns))
    return [chosen for size in range(len(columns) + 1) for chosen in itertools.combinations(columns, size)]


def some_set(chance, count, share=0.4):
    return tuple(column for column in range(count) if chance.random() < share)


def some_fds(chance, count, many, share=0.4):
    return [Fd(some_set(chance, count, share), some_set(chance, count, share)) for _ in range(many)]


def some_pair(chance, count, share=0.4):
    """A functional or a many-valued dependency."""
    kind = chance.choice((Fd, Mvd))
    return kind(some_set(chance, count, share), some_set(chance, count, share))


def some_jd(chance, count, many, share=0.5):
    """A join dependency with so many parts, whose union is the whole set."""
    parts = [set(some_set(chance, count, share)) for _ in range(many)]
    for column in range(count):
        if not any(column in part for part in parts):
            chance.choice(parts).add(column)
    return Jd([sorted(part) for part in parts])


def fields(dependency):
    """A dependency as a value that == compares without its help."""
    if isinstance(dependency, Jd):
        return ("Jd", dependency.parts)
    return (type(dependency).__name__, dependency.left, dependency.right)


def all_fields(dependencies):
    return [fields(dependency) for dependency in dependencies]


# Closures, point 11.


def is_closed(dependencies, columns):
    return all(set(fd.right) <= set(columns) for fd in dependencies if set(fd.left) <= set(columns))


def least_closed(count, dependencies, columns):
    """What all closed sets that the columns are within have in common."""
    around = [some for some in subsets(range(count)) if set(columns) <= set(some)]
    common = set(range(count))
    for some in around:
        if is_closed(dependencies, some):
            common &= set(some)
    return tuple(sorted(common))


# What a table keeps, point 9.


def agree(r, s, columns):
    return all(r[column] == s[column] for column in columns)


def keeps(count, rows, dependency):
    """Whether the table with all columns and these rows keeps a dependency."""
    rows = sorted(set(rows))
    if isinstance(dependency, Jd):
        there = [{tuple(row[column] for column in part) for row in rows} for part in dependency.parts]
        return len(joined(list(zip(dependency.parts, there)), count)) == len(rows)
    left, right = dependency.left, dependency.right
    others = [column for column in range(count) if column not in left + right]
    groups = {}
    for row in rows:
        groups.setdefault(tuple(row[column] for column in left), []).append(row)
    for group in groups.values():
        if isinstance(dependency, Fd):
            if not all(agree(row, group[0], right) for row in group):
                return False
        else:
            # There is one row for each pair of what stands there in the one part and in the other.
            ours = {tuple(row[column] for column in left + right) for row in group}
            theirs = {tuple(row[column] for column in others) for row in group}
            if len(group) != len(ours) * len(theirs):
                return False
    return True


def joined(projections, count):
    """The rows of the join of projections, pairs (columns, rows), that have all columns together."""
    seen, found = [], [{}]
    for columns, rows in projections:
        shared = [column for column in columns if column in seen]
        partners = {}
        for row in rows:
            cells = dict(zip(columns, row))
            partners.setdefault(tuple(cells[column] for column in shared), []).append(cells)
        seen = seen + [column for column in columns if column not in seen]
        found = [
            {**one, **other} for one in found
            for other in partners.get(tuple(one[column] for column in shared), [])
        ]
    return {tuple(one[column] for column in range(count)) for one in found}


def shows_not(count, dependencies, target, rows):
    """Whether rows are a table that keeps the dependencies and not the target."""
    if any(len(row) != count for row in rows):
        return False
    kept = [keeps(count, rows, dependency) for dependency in dependencies]
    return all(kept) and not keeps(count, rows, target)


# Derivations, point 12.


def is_set(columns, count):
    in_order = all(a < b for a, b in zip(columns, columns[1:]))
    return in_order and all(0 <= column < count for column in columns)


def derived(count, dependencies, rows):
    """The dependencies that the rows of a derivation tell, or None if one of the rows is not right."""
    told = []
    for row in rows:
        found = row_tells(count, dependencies, told, row)
        if found is None:
            return None
        told.append((found[0], tuple(sorted(found[1])), tuple(sorted(found[2]))))
    return told


def row_tells(count, dependencies, told, row):
    """What one more row of a derivation tells, as (kind, left, right), or None."""
    word, everything = row[0], set(range(count))
    if word == "told":
        if 0 <= row[1] < len(dependencies) and not isinstance(dependencies[row[1]], Jd):
            return fields(dependencies[row[1]])
        return None
    if word == "within":
        fit = is_set(row[1], count) and is_set(row[2], count) and set(row[2]) <= set(row[1])
        return ("Fd", row[1], row[2]) if fit else None
    numbers = row[1:3] if word in ("through", "beyond", "meets") else row[1:2]
    kinds = {"through": "Fd Fd", "beyond": "Mvd Mvd", "meets": "Mvd Fd", "with": "Fd", "also": "Fd"}
    if not all(0 <= number < len(told) for number in numbers):
        return None
    if [told[number][0] for number in numbers] != kinds.get(word, "Mvd").split():
        return None
    if not all(is_set(columns, count) for columns in row[1 + len(numbers):]):
        return None
    x, y = set(told[row[1]][1]), set(told[row[1]][2])
    if word == "with":
        return ("Fd", x | set(row[2]), y | set(row[2]))
    if word == "also":
        return ("Mvd", x, y)
    if word == "other":
        return ("Mvd", x, everything - x - y)
    if word == "wide":
        return ("Mvd", x | set(row[2]), y | set(row[3])) if set(row[3]) <= set(row[2]) else None
    w, z = set(told[row[2]][1]), set(told[row[2]][2])
    if word == "through":
        return ("Fd", x, z) if y == w else None
    if word == "beyond":
        return ("Mvd", x, z - y) if y == w else None
    return ("Fd", x, z) if z <= y and not w & y else None


# The chase, point 16.


def parts_of(count, dependency):
    if isinstance(dependency, Jd):
        return dependency.parts
    left, right = set(dependency.left), set(dependency.right)
    return (tuple(sorted(left | right)), tuple(sorted(left | set(range(count)) - right)))


def first_rows(count, target):
    if isinstance(target, Jd):
        return [
            [0 if column in part else at + 1 for column in range(count)] for at, part in enumerate(target.parts)
        ]
    return [[0] * count, [0 if column in target.left else 1 for column in range(count)]]


def goal_reached(count, target, rows):
    if isinstance(target, Jd):
        return any(row == [0] * count for row in rows)
    if isinstance(target, Fd):
        return agree(rows[0], rows[1], target.right)
    both = set(target.left) | set(target.right)
    others = set(range(count)) - both
    return any(agree(row, rows[0], both) and agree(row, rows[1], others) for row in rows)


def step_taken(count, dependencies, rows, step):
    """The rows behind a step, or None if it is not right."""
    if not 0 <= step[1] < len(dependencies):
        return None
    dependency = dependencies[step[1]]
    if (step[0] == "same") != isinstance(dependency, Fd):
        return None
    if step[0] == "join":
        parts = parts_of(count, dependency)
        if len(step[2]) != len(parts) or not all(0 <= at < len(rows) for at in step[2]):
            return None
        asked = [{rows[at][column] for at, part in zip(step[2], parts) if column in part} for column in range(count)]
        if any(len(cells) != 1 for cells in asked):
            return None
        return rows + [[min(cells) for cells in asked]]
    first, second, column = step[2:]
    if not 0 <= first < len(rows) or not 0 <= second < len(rows) or column not in dependency.right:
        return None
    if not agree(rows[first], rows[second], dependency.left) or rows[first][column] == rows[second][column]:
        return None
    low, high = sorted((rows[first][column], rows[second][column]))
    return [
        [low if at == column and cell == high else cell for at, cell in enumerate(row)] for row in rows
    ]


def chased(count, dependencies, target, steps):
    """Whether each step is right and the goal is reached behind the last one."""
    rows = first_rows(count, target)
    for step in steps:
        rows = step_taken(count, dependencies, rows, step)
        if rows is None:
            return False
    return goal_reached(count, target, rows)


def takes(count, dependencies, target, verdict, paper):
    """The judge of point 18, put together from all that stands above."""
    word, content = paper
    if not verdict:
        return word == "table" and shows_not(count, dependencies, target, content)
    if word == "chased":
        return chased(count, dependencies, target, content)
    if word != "derived" or not content:
        return False
    told = derived(count, dependencies, content)
    return told is not None and told[-1] == fields(target)


# What comes out.


def is_tuples(value):
    """Whether a paper is of tuples throughout, as far as its parts are no numbers, words or None."""
    if isinstance(value, tuple):
        return all(is_tuples(part) for part in value)
    return value is None or type(value) in (int, str)


# What functional dependencies say together: points 11 and 19 to 22.


def closures(count, fds):
    """The closure of each set: what the closed sets that it is within have in common."""
    sets = subsets(range(count))
    closed = [set(some) for some in sets if is_closed(fds, some)]
    return {some: tuple(sorted(set.intersection(*[one for one in closed if set(some) <= one]))) for some in sets}


def follow_all(some, others):
    """Whether all other functional dependencies follow from some."""
    return all(set(fd.right) <= set(reach(some, fd.left)) for fd in others)


def say_the_same(some, others):
    return follow_all(some, others) and follow_all(others, some)


def reach(fds, columns):
    """The least closed set that a set is within, found by going up from it."""
    found = set(columns)
    while not is_closed(fds, found):
        for fd in fds:
            if set(fd.left) <= found:
                found |= set(fd.right)
    return tuple(sorted(found))


def all_keys(count, fds):
    """The keys and the greatest sets that hold none, by point 22."""
    told = closures(count, fds)
    full = [set(some) for some in told if len(told[some]) == count]
    rest = [set(some) for some in told if len(told[some]) < count]
    least = [tuple(sorted(some)) for some in full if not any(other < some for other in full)]
    greatest = [tuple(sorted(some)) for some in rest if not any(some < other for other in rest)]
    return (sorted(least), sorted(greatest))


def spread_is_right(count, fds, many, paper):
    """Whether a paper of point 21 is right, for a cover with so many dependencies."""
    _, sets, between = paper
    if len(sets) != many or not all(is_set(some, count) for some in sets + between):
        return False
    if any(is_closed(fds, some) for some in sets) or not all(is_closed(fds, some) for some in between):
        return False
    pairs = list(itertools.combinations(sets, 2))
    if len(pairs) != len(between):
        return False
    for (a, b), some in zip(pairs, between):
        a, b, some = set(a), set(b), set(some)
        if not a <= b and not b <= a:
            if some != a & b:
                return False
        elif not (a <= some <= b or b <= some <= a):
            return False
    return True


# Splits, points 23 to 26.


def is_split(count, parts):
    """Whether some sets are a split, none within another one, ascending."""
    if not all(type(part) is tuple and is_set(part, count) for part in parts):
        return False
    nested = any(set(a) <= set(b) for a, b in itertools.permutations(parts, 2))
    return not nested and list(parts) == sorted(parts) and set().union(*parts) == set(range(count))


def loses_nothing(count, fds, parts):
    """Whether a split is lossless for functional dependencies, by a tableau."""
    rows = first_rows(count, Jd(parts))
    changed = True
    while changed:
        changed = False
        for fd in fds:
            for r, s in itertools.combinations(rows, 2):
                for column in fd.right:
                    if agree(r, s, fd.left) and r[column] != s[column]:
                        low, high = sorted((r[column], s[column]))
                        for row in rows:
                            row[column] = low if row[column] == high else row[column]
                        changed = True
    return [0] * count in rows


def of_parts(told, parts):
    """The functional dependencies of the parts, for the closures of all sets."""
    return [Fd(left, set(told[left]) & set(part)) for part in parts for left in subsets(part)]


def telling(told, part):
    """The functional dependencies of a part, as pairs, whose right side is not within the left one."""
    pairs = itertools.product(subsets(part), repeat=2)
    return [(x, y) for x, y in pairs if set(y) <= set(told[x]) and not set(y) <= set(x)]


def in_boyce_codd_form(told, part):
    return all(set(part) <= set(told[x]) for x, y in telling(told, part))


def in_third_form(told, part):
    full = [set(some) for some in subsets(part) if set(part) <= set(told[some])]
    least = [some for some in full if not any(other < some for other in full)]
    in_keys = set().union(*least)
    return all(set(part) <= set(told[x]) or set(y) - set(x) <= in_keys for x, y in telling(told, part))


# Join trees, point 29.


def connects(nodes, edges):
    """Whether edges connect some nodes, going from one of them to all others."""
    nodes = set(nodes)
    met = set(list(nodes)[:1])
    waiting = list(met)
    while waiting:
        at = waiting.pop()
        for i, j in edges:
            for here, there in ((i, j), (j, i)):
                if here == at and there in nodes and there not in met:
                    met.add(there)
                    waiting.append(there)
    return met == nodes


def is_join_tree(parts, edges):
    """Whether edges are those of a join tree, as pairs (i, j), i < j, ascending."""
    if len(edges) != len(parts) - 1 or any(a >= b for a, b in zip(edges, edges[1:])):
        return False
    if not all(0 <= i < j < len(parts) for i, j in edges) or not connects(range(len(parts)), edges):
        return False
    for column in set().union(*parts):
        nodes = [at for at, part in enumerate(parts) if column in part]
        if not connects(nodes, [(i, j) for i, j in edges if i in nodes and j in nodes]):
            return False
    return True


def is_acyclic(parts):
    """Whether one of all trees is a join tree."""
    pairs = list(itertools.combinations(range(len(parts)), 2))
    return any(is_join_tree(parts, edges) for edges in itertools.combinations(pairs, len(parts) - 1))


def is_core(parts, columns):
    if any(a >= b for a, b in zip(columns, columns[1:])):
        return False
    inner = {frozenset(part) & frozenset(columns) for part in parts}
    left = [some for some in inner if not any(some < other for other in inner)]
    return len(left) >= 2 and all(sum(column in some for some in left) >= 2 for column in columns)


def takes_tree(parts, paper):
    word, content = paper
    return is_join_tree(parts, content) if word == "tree" else is_core(parts, content)


def some_acyclic(chance, count, many):
    """A list of sets, each of which shares columns with a single one before it, if with any."""
    parts = [set(some_set(chance, count, 0.5))]
    for _ in range(many - 1):
        old = chance.choice(parts)
        fresh = [column for column in range(count) if not any(column in part for part in parts)]
        parts.append({column for column in old if chance.random() < 0.5} | set(fresh[:chance.randrange(3)]))
    chance.shuffle(parts)
    return [tuple(sorted(part)) for part in parts]


# Joins, points 8 and 30, and tables as values that == compares without their help.


def table_fields(table):
    return (table.columns, table.rows)


def cells_of(columns, row, wanted):
    """The cells of a row in some columns, looked up by column."""
    told = dict(zip(columns, row))
    return tuple(told[column] for column in wanted)


def projected(table, wanted):
    return sorted({cells_of(table.columns, row, wanted) for row in table.rows})


def join_rows(tables):
    """The columns and the rows of the join of tables, row by row."""
    columns = sorted(set().union(*[table.columns for table in tables]))
    found = [{}]
    for table in tables:
        found = [
            {**one, **dict(zip(table.columns, row))} for one in found for row in table.rows
            if all(one.get(column, cell) == cell for column, cell in zip(table.columns, row))
        ]
    return tuple(columns), tuple(sorted({tuple(one[column] for column in columns) for one in found}))


# States, points 31 to 34.


def is_whole(count, fds, tables, rows):
    """Whether rows are those of a whole table for a state."""
    if any(len(row) != count for row in rows):
        return False
    for fd in fds:
        for r, s in itertools.combinations(rows, 2):
            if agree(r, s, fd.left) and not agree(r, s, fd.right):
                return False
    for table in tables:
        there = {tuple(row[column] for column in table.columns) for row in rows}
        if not set(table.rows) <= there:
            return False
    return True


def first_cells(count, tables):
    """The rows with which the chase of a state begins, as lists of pairs (kind, number)."""
    numbers = itertools.count()
    rows = []
    for table in tables:
        for row in table.rows:
            told = dict(zip(table.columns, row))
            rows.append([(0, told[at]) if at in told else (1, next(numbers)) for at in range(count)])
    return rows


def state_step(fds, rows, step):
    """Change the rows as a step tells: "clash", "made", or None for a step that is not right."""
    index, first, second, column = step
    if not 0 <= index < len(fds) or not 0 <= first < len(rows) or not 0 <= second < len(rows):
        return None
    if column not in fds[index].right or not agree(rows[first], rows[second], fds[index].left):
        return None
    one, other = rows[first][column], rows[second][column]
    if one == other:
        return None
    if one[0] == 0 and other[0] == 0:
        return "clash"
    if one[0] == 0 or (other[0] == 1 and one[1] < other[1]):
        old, new = other, one
    else:
        old, new = one, other
    for row in rows:
        row[:] = [new if cell == old else cell for cell in row]
    return "made"


def clashes(count, fds, tables, steps):
    """Whether steps are right ones of which exactly the last one is a clash."""
    rows = first_cells(count, tables)
    found = [state_step(fds, rows, step) for step in steps]
    return found[-1:] == ["clash"] and found[:-1] == ["made"] * (len(found) - 1)


def takes_whole(count, fds, tables, verdict, paper):
    word, content = paper
    if verdict:
        return word == "table" and is_whole(count, fds, tables, content)
    return word == "clash" and clashes(count, fds, tables, content)


def state_chased(count, fds, tables):
    """The rows of cells behind all steps, or None if there is a clash."""
    rows = first_cells(count, tables)
    places = list(itertools.product(range(len(rows)), range(len(rows)), range(count)))
    changed = True
    while changed:
        changed = False
        for index in range(len(fds)):
            for first, second, column in places:
                if first < second and column in fds[index].right:
                    found = state_step(fds, rows, (index, first, second, column))
                    if found == "clash":
                        return None
                    changed = changed or found == "made"
    return rows


def window_rows(count, fds, tables, columns):
    """The rows that have no unknowns in a set of columns, or None if there is a clash."""
    rows = state_chased(count, fds, tables)
    if rows is None:
        return None
    parts = [[row[column] for column in columns] for row in rows]
    known = [part for part in parts if all(kind == 0 for kind, _ in part)]
    return tuple(sorted({tuple(number for _, number in part) for part in known}))


# Reasons and repairs, points 36 to 38.


def all_reasons(fds, target):
    """The reasons and the greatest sets from which the target does not follow, by going through all sets."""
    sets = subsets(range(len(fds)))
    follows = {some: set(target.right) <= set(reach([fds[at] for at in some], target.left)) for some in sets}
    yes = [set(some) for some in sets if follows[some]]
    no = [set(some) for some in sets if not follows[some]]
    least = [tuple(sorted(some)) for some in yes if not any(other < some for other in yes)]
    greatest = [tuple(sorted(some)) for some in no if not any(some < other for other in no)]
    return (sorted(least), sorted(greatest))


def first_broken(r, s, fds):
    """The index of the first dependency that two rows break together, or None."""
    for index, fd in enumerate(fds):
        if agree(r, s, fd.left) and not agree(r, s, fd.right):
            return index
    return None


def all_conflicts(rows, fds):
    pairs = itertools.combinations(range(len(rows)), 2)
    told = [(i, j, first_broken(rows[i], rows[j], fds)) for i, j in pairs]
    return [triple for triple in told if triple[2] is not None]


def all_repairs(rows, fds):
    """The rows of each repair, by going through all sets of rows."""
    conflicts = {(i, j) for i, j, _ in all_conflicts(rows, fds)}
    kept = [set(some) for some in subsets(range(len(rows))) if not any((i, j) in conflicts for i, j in pairs_of(some))]
    greatest = [some for some in kept if not any(some < other for other in kept)]
    return sorted(tuple(rows[at] for at in sorted(some)) for some in greatest)


def pairs_of(some):
    return itertools.combinations(sorted(some), 2)


# Texts, points 39 and 40.


def set_text(columns):
    return " ".join(str(column) for column in columns) if columns else "-"


def text_of(dependency):
    if isinstance(dependency, Jd):
        return "join" + "".join(" [" + set_text(part) + "]" for part in dependency.parts)
    sign = {"Fd": ">", "Mvd": ">>"}[type(dependency).__name__]
    return set_text(dependency.left) + " " + sign + " " + set_text(dependency.right)


def set_of_text(text, count):
    """The set that has a text, or None."""
    if text == "-":
        return ()
    words = text.split(" ")
    names = [str(column) for column in range(count)]
    if not all(word in names for word in words):
        return None
    columns = [names.index(word) for word in words]
    return tuple(columns) if columns == sorted(set(columns)) else None


def sets_of_texts(texts, count):
    sets = [set_of_text(text, count) for text in texts]
    return None if None in sets else sets


def fields_of_text(text, count):
    """The fields of the dependency that has a text, or None."""
    if text.startswith("join [") and text.endswith("]"):
        parts = sets_of_texts(text[6:-1].split("] ["), count)
        if parts is None or set().union(*parts) != set(range(count)):
            return None
        return ("Jd", tuple(parts))
    for sign, name in ((" >> ", "Mvd"), (" > ", "Fd")):
        if text.count(sign) == 1:
            sides = sets_of_texts(text.split(sign), count)
            return None if sides is None else (name, *sides)
    return None


def endings(count):
    """Texts of which one behind each beginning of the text of a dependency makes such a text."""
    join = "join [-] [" + set_text(range(count)) + "]"
    told = {whole[at:] for whole in ("- > -", "- >> -", join) for at in range(len(whole) + 1)}
    told |= {str(column) + more for column in range(count) for more in ("", " > -", join[7:])}
    return sorted(told)


def is_beginning(text, count):
    return any(fields_of_text(text + more, count) is not None for more in endings(count))


def is_beginning_of_all(text, count):
    """Whether a text is a beginning of the text of a list."""
    *lines, last = text.split("\n")
    return all(fields_of_text(line, count) is not None for line in lines) and is_beginning(last, count)
