"""The basis of a set, and what follows from functional and many-valued dependencies."""
from followsortable.closure import two_rows
from followsortable.dependency import Fd
from followsortable.derivations import Derivation, put_chain
from followsortable.sets import is_within, less, met, united, whole


def basis(count, dependencies, columns):
    """The blocks of the basis of a set, ascending."""
    blocks, _ = _refined(count, dependencies, columns)
    return sorted(blocks)


def follows_mvd(count, dependencies, target):
    """Whether a functional or a many-valued dependency follows from such, and a paper that shows it."""
    blocks, splits = _refined(count, dependencies, target.left)
    unfit = _unfit_blocks(dependencies, target, blocks)
    if unfit:
        return (False, ("table", two_rows(count, unfit[0])))
    proof = Derivation(count, dependencies)
    found = _put_blocks(proof, target.left, splits)
    if isinstance(target, Fd):
        _put_fd(proof, target, found)
    else:
        _put_mvd(proof, target, [found[block] for block in blocks if is_within(block, target.right)])
    return (True, ("derived", tuple(proof.rows)))


def settled(dependencies, columns, blocks):
    """All columns that a set tells, for the blocks of its basis."""
    single = [block for block in blocks if _teller(dependencies, block) is not None]
    return united(columns, [column for block in single for column in block])


def _teller(dependencies, block):
    """The index of a functional dependency to the only column of a block, or None.

    A set tells just those columns outside of it that are a block of its
    basis and stand on the right side alone of a told functional dependency.
    """
    if len(block) > 1:
        return None
    for index, dependency in enumerate(dependencies):
        if isinstance(dependency, Fd) and is_within(block, less(dependency.right, dependency.left)):
            return index
    return None


def _refined(count, dependencies, columns):
    """The blocks of the basis of a set, and the splits that lead to them.

    A split is a triple of a block, the index of a told dependency, and a set:
    the block falls into its columns that are in the set and those that are not.
    """
    outside = less(whole(count), columns)
    blocks = [outside] if outside else []
    splits = []
    pieces = _pieces(dependencies)
    before = -1
    while len(splits) > before:
        before = len(splits)
        for index, left, right in pieces:
            divided = _divided(blocks, left, right)
            for block in divided:
                splits.append((block, index, right))
                blocks.remove(block)
                blocks.extend([met(block, right), less(block, right)])
    return blocks, splits


def _pieces(dependencies):
    """The many-valued dependencies that refine a basis, each as (index, left side, right side).

    A functional dependency counts as one for each column of its right side.
    """
    pieces = []
    for index, dependency in enumerate(dependencies):
        rights = [dependency.right]
        if isinstance(dependency, Fd):
            rights = [(column,) for column in less(dependency.right, dependency.left)]
        pieces.extend([(index, dependency.left, right) for right in rights])
    return pieces


def _divided(blocks, left, right):
    """The blocks that a many-valued dependency divides: those without a column of its left side."""
    free = [block for block in blocks if met(block, left) == ()]
    return [block for block in free if met(block, right) != () and less(block, right) != ()]


def _unfit_blocks(dependencies, target, blocks):
    """The blocks of the basis of its left side that show that a target does not follow."""
    reached = [block for block in blocks if met(block, target.right) != ()]
    if isinstance(target, Fd):
        return [block for block in reached if _teller(dependencies, block) is None]
    return [block for block in reached if not is_within(block, target.right)]


def _put_blocks(proof, left, splits):
    """Put rows for all blocks that were split off; a dict from the blocks to the indexes.

    The rows tell the many-valued dependencies of left to the blocks.
    """
    nothing = proof.put(("within", left, ()))
    found = {less(whole(proof.count), left): proof.put(("other", proof.put(("also", nothing))))}
    for block, index, right in splits:
        piece = _put_piece(proof, index, right)
        outside = _put_outside(proof, left, found[block])
        found[met(block, right)] = _put_beyond(proof, outside, piece)
        found[less(block, right)] = _put_beyond(proof, outside, proof.put(("other", piece)))
    return found


def _put_piece(proof, index, right):
    """Put the many-valued dependency of the left side of a told one to a part of its right side."""
    dependency = proof.dependencies[index]
    if not isinstance(dependency, Fd):
        return proof.put(("told", index))
    return proof.put(("also", _put_narrow(proof, index, right)))


def _put_narrow(proof, index, right):
    """Put the functional dependency of the left side of a told one to a part of its right side."""
    told = proof.put(("told", index))
    narrower = proof.put(("within", proof.told[told].right, right))
    return proof.put(("through", told, narrower))


def _put_outside(proof, left, row):
    """Put the many-valued dependency of left to all columns that are in no block of a row."""
    rest = proof.put(("other", row))
    return proof.put(("wide", rest, left, left))


def _put_beyond(proof, first, second):
    """Put the columns of the second row that are not in the first one, which holds its left side."""
    wider = proof.put(("wide", second, proof.told[first].right, ()))
    return proof.put(("beyond", first, wider))


def _put_fd(proof, target, found):
    """Put rows of which the last one tells a functional target."""
    rows = []
    for column in less(target.right, target.left):
        narrow = _put_narrow(proof, _teller(proof.dependencies, (column,)), (column,))
        rows.append(proof.put(("meets", found[(column,)], narrow)))
    put_chain(proof, target.left, rows, target.right)


def _put_mvd(proof, target, rows):
    """Put rows of which the last one tells a many-valued target, made of the blocks of some rows."""
    left = target.left
    last = rows[0] if rows else proof.put(("also", proof.put(("within", left, ()))))
    for row in rows[1:]:
        # The columns outside of both are what is outside of the one and not in the other.
        widened = proof.put(("wide", last, left, left))
        neither = _put_beyond(proof, widened, proof.put(("other", row)))
        last = proof.put(("other", neither))
    proof.put(("wide", last, left, met(left, target.right)))
