"""Notes: pairings written as texts, and read from them."""

from pairlings.errors import BadNote, NoPairing
from pairlings.pairings import MOST_POINTS, looked


def shown(pairing):
    points = pairing[0]
    words = [f"{points}:"]
    for beginning, end in pairing[1]:
        words.append(f"{beginning}-{end}")
    return " ".join(words)


def read(text):
    words = text.split(" ")
    pairing = (points_in_word(words[0]), tuple([pair_in_word(word) for word in words[1:]]))
    try:
        looked(pairing)
    except NoPairing:
        raise BadNote("the text writes no pairing") from None
    return pairing


def points_in_word(word):
    if not word.endswith(":"):
        raise BadNote("the number of points with a colon is not the first word")
    return number_in_word(word[:-1])


def pair_in_word(word):
    numbers = word.split("-")
    if len(numbers) != 2:
        raise BadNote("a pair is not two numbers with a hyphen between them")
    return (number_in_word(numbers[0]), number_in_word(numbers[1]))


# No pairing has a greater number than 60, and just these words are without a needless nought;
# a number of some thousand figures is refused like any other word, as it can't be worked out.
def number_in_word(word):
    if word not in [str(number) for number in range(MOST_POINTS + 1)]:
        raise BadNote("a word is not a number from 0 to 60")
    return int(word)
