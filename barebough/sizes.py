"""Size lists: positive integers in descending order."""

from barebough.errors import OutOfRange, UnevenSums


def normal(values):
    """Return the size list of the values that are not 0."""
    return sorted([value for value in values if value != 0], reverse=True)


def top_sums(sizes):
    """Return the top sums H(1) to H(S), where S is the sum of the list."""
    sums = []
    total = 0
    for entry in sizes:
        total += entry
        sums.append(total)
    return sums + [total] * (total - len(sizes))


def take(sizes, place):
    """Return the size list after the entry at an index is lowered by one."""
    return normal(sizes[:place] + [sizes[place] - 1] + sizes[place + 1:])


def take_largest(sizes):
    """Return the size list after a largest entry is lowered by one."""
    return take(sizes, 0)


def take_smallest(sizes):
    """Return the size list after a smallest entry is lowered by one."""
    return take(sizes, len(sizes) - 1)


def is_as_safe(first, second):
    """Tell whether no top sum of the first list is greater than that of the second."""
    need_even_sums(first, second)
    return all(one <= other for one, other in zip(top_sums(first), top_sums(second)))


def is_safer_by_tops(first, second):
    """Tell whether the list with the first top sums is safer than that with the second."""
    return first != second and all(one <= other for one, other in zip(first, second))


def conjugate(sizes):
    """Return the numbers of entries that are greater than 0, than 1, and so on."""
    most = sizes[0] if sizes else 0
    return [len([entry for entry in sizes if entry > bound]) for bound in range(most)]


def meet(first, second):
    """Return the riskiest size list that is as safe as both lists."""
    need_even_sums(first, second)
    tops = [min(one, other) for one, other in zip(top_sums(first), top_sums(second))]
    return normal([top - before for before, top in zip([0] + tops, tops)])


def join(first, second):
    """Return the safest size list that both lists are as safe as."""
    # The conjugates are ordered the other way round, so their meet stands for the join.
    return conjugate(meet(conjugate(first), conjugate(second)))


def glue(first, second):
    """Return the size list with the entries of both lists."""
    return normal(first + second)


def levelled(total, piles, top):
    """Return the safest size list of a sum whose first entries have the sum top."""
    if not min(piles, total) <= top <= total:
        raise OutOfRange(top)
    each, more = divmod(top, piles)
    shared = [each + 1] * more + [each] * (piles - more)
    return normal(shared + [1] * (total - top))


def grown_safest(sizes, extra):
    """Return the size list with some more entries 1."""
    return sizes + [1] * extra


def grown_riskiest(sizes, extra):
    """Return the size list whose first entry is greater by extra."""
    most = sizes[0] if sizes else 0
    return normal([most + extra] + sizes[1:])


def need_even_sums(first, second):
    """Raise UnevenSums if the size lists have different sums."""
    if sum(first) != sum(second):
        raise UnevenSums(sum(first), sum(second))
