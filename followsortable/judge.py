"""The judge of the papers that a dependency follows from others or does not."""
from followsortable.chase import Chase
from followsortable.derivations import Derivation
from followsortable.sets import whole
from followsortable.table import Table, keeps


def takes(count, dependencies, target, verdict, paper):
    """Whether a paper shows that the verdict on a target is right."""
    word, content = paper
    if not verdict:
        return word == "table" and _breaks(count, dependencies, target, content)
    if word == "derived":
        return _derives(count, dependencies, target, content)
    return word == "chased" and _chases(count, dependencies, target, content)


def _derives(count, dependencies, target, rows):
    """Whether rows are a right derivation whose last row tells the target."""
    proof = Derivation(count, dependencies)
    for row in rows:
        if not proof.accept(row):
            return False
    return len(rows) > 0 and proof.told[-1] == target


def _chases(count, dependencies, target, steps):
    """Whether steps are right ones behind which the goal is reached."""
    chase = Chase(count, dependencies, target)
    for step in steps:
        if not chase.take(step):
            return False
    return chase.reached()


def _breaks(count, dependencies, target, rows):
    """Whether rows make a table that keeps the dependencies and does not keep the target."""
    if any([len(row) != count for row in rows]):
        return False
    table = Table(whole(count), rows)
    return not keeps(table, target) and all([keeps(table, told) for told in dependencies])
