"""Numbers of rows of digits, each digit from 0 to a count less one, the last digit counting ones."""


def number_of_rows(counts):
    """Return how many rows of digits there are."""
    many = 1
    for count in counts:
        many = many * count
    return many


def digits_of(number, counts):
    """Return the digits of the row with a number."""
    digits = []
    rest = number
    for count in reversed(counts):
        rest, digit = divmod(rest, count)
        digits.append(digit)
    return digits[::-1]


def number_of(digits, counts):
    """Return the number of a row of digits."""
    number = 0
    for digit, count in zip(digits, counts):
        number = number * count + digit
    return number


def step(digits, counts):
    """Make the digits those of the next row; return the first place that changed, None behind the last row."""
    for place in reversed(range(len(digits))):
        if digits[place] + 1 < counts[place]:
            digits[place] += 1
            return place
        digits[place] = 0
    return None
