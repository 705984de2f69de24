"""What point 6 asks of a table, checked on the table alone, by other means than the program's."""

SIGNS = "+abcdefghijklmnopqrstuvwxyz"


def texts_from(table, state, depth=0):
    """All texts that lead from this state to an end."""
    if depth > len(table):
        raise AssertionError("the table leads in a ring")
    is_end, pairs = table[state]
    told = [""] if is_end else []
    for sign, onward in pairs:
        told.extend(sign + rest for rest in texts_from(table, onward, depth + 1))
    return told


def come_to(table):
    """The states in the order in which they are first come to."""
    order = [0]
    for state in order:
        for _, onward in table[state][1]:
            if onward not in order:
                order.append(onward)
    return order


def check_form(case, table):
    case.assertIs(type(table), tuple)
    for row in table:
        case.assertIs(type(row), tuple)
        case.assertEqual(len(row), 2)
        case.assertIs(type(row[0]), bool)
        case.assertIs(type(row[1]), tuple)
        for pair in row[1]:
            case.assertEqual([type(part) for part in pair], [str, int])
            case.assertIs(type(pair), tuple)
        places = [SIGNS.index(sign) for sign, _ in row[1]]
        case.assertEqual(places, sorted(set(places)))


def check_least(case, table, texts):
    """The table is the one of the least machine for these texts."""
    check_form(case, table)
    case.assertEqual(sorted(texts_from(table, 0)), sorted(set(texts)))
    case.assertEqual(come_to(table), list(range(len(table))))
    seen = {}
    for state in range(len(table)):
        onward = tuple(sorted(texts_from(table, state)))
        if texts:
            case.assertTrue(onward, f"no end is come to from {state}")
        case.assertNotIn(onward, seen, f"{state} and {seen.get(onward)} let by the same")
        seen[onward] = state
