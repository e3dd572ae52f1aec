"""Folk and fractions written as texts, and read from them."""

from nearposts.errors import NoText
from nearposts.fractions import fraction_of

FIGURES = "0123456789"


def folk_text(folk):
    if len(folk) == 0:
        return "nobody"
    return " ".join([f"{place}*{weight}" for place, weight in folk])


def fraction_text(fraction):
    top = fraction[0]
    bottom = fraction[1]
    if bottom == 1:
        return str(top)
    return f"{top}/{bottom}"


def are_figures(text):
    return len(text) > 0 and all([sign in FIGURES for sign in text])


# Python reads -0 and noughts ahead too, but writes none of them.
def number_in(word):
    figures = word[1:] if word.startswith("-") else word
    if not are_figures(figures):
        return None
    number = int(word)
    return number if str(number) == word else None


def numbers_in(word, sign):
    return [number_in(part) for part in word.split(sign)]


def reach_in(word):
    numbers = numbers_in(word, "/")
    if len(numbers) > 2 or None in numbers:
        return None
    top = numbers[0]
    bottom = numbers[1] if len(numbers) == 2 else 1
    if top < 0 or bottom < 1:
        return None
    fraction = fraction_of(top, bottom)
    return fraction if fraction_text(fraction) == word else None


def one_in(word):
    numbers = numbers_in(word, "*")
    if len(numbers) != 2 or None in numbers:
        return None
    return (numbers[0], numbers[1])


def read_folk(text):
    if text == "nobody":
        return []
    folk = [one_in(word) for word in text.split(" ")]
    if None in folk:
        raise NoText(folk.index(None))
    return folk
