"""What the words of a laying count, and the points of a laying."""

from letterrack.rules import cells_of, formed

LETTER_MARKS = {"2": 2, "3": 3, "4": 4}
WORD_MARKS = {"b": 2, "c": 3, "d": 4}


def worth_of(worths, sign):
    # A great letter is a blank: it counts nothing, whatever the worths hold.
    return worths.get(sign, 0) if "a" <= sign <= "z" else 0


def cell_in(word, place):
    return (word[0], word[1] + place) if word[2] == 0 else (word[0] + place, word[1])


def word_points(board, worths, laying, word):
    cells = cells_of(laying)
    total = 0
    times = 1
    for place, sign in enumerate(word[3]):
        cell = cell_in(word, place)
        worth = worth_of(worths, sign)
        # A mark counts for the laying that covers it alone, never for what lay there ahead.
        if cell in cells:
            mark = board.marks[cell[0]][cell[1]]
            worth = worth * LETTER_MARKS.get(mark, 1)
            times = times * WORD_MARKS.get(mark, 1)
        total = total + worth
    return total * times


def bonus_of(bonus, laying):
    return bonus[1] if len(laying) >= bonus[0] else 0


def points_of(board, worths, bonus, laying):
    counted = [word_points(board, worths, laying, word) for word in formed(board, laying)]
    return sum(counted) + bonus_of(bonus, laying)
