"""Systems: numbers told by weighted sums of them."""


def solved(rows):
    """The numbers that weighted sums tell: their tops, over one bottom.

    A row has whole weights, one for each number, and behind them what these come to. Handed in are such where each
    number is more than the part of it that comes back by the others: then nothing is ever divided by 0.
    """
    left = rows
    bottom = 1
    for at in range(len(rows)):
        ahead = left[at]
        # the first weight goes from each row; what is divided here divides evenly
        left = [
            row[1:] if other == at else
            [(ahead[0] * own - row[0] * part) // bottom for own, part in zip(row[1:], ahead[1:])]
            for other, row in enumerate(left)
        ]
        bottom = ahead[0]
    return [row[0] for row in left], bottom
