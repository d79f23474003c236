"""The times of a day and their numbers, at each rate."""

from cutroom.checks import is_between, is_whole
from cutroom.errors import BadCount, BadRate, BadTime

FIGURES = "0123456789"
RATES = (24, 25, 30)
MINUTES_OF_DAY = 1440
# At the rate drop: a minute with times left out, and ten minutes, of which one has all its times.
SHORT_MINUTE = 1798
TEN_MINUTES = 17982
FARTHEST = 1000000000


def check_rate(rate):
    if rate != "drop" and not (is_whole(rate) and rate in RATES):
        raise BadRate("this is no rate")


def frames_of_second(rate):
    return 30 if rate == "drop" else rate


def left_out(minute, rate):
    # How many times are left out from the day's beginning on, up to the first time of this minute.
    return 2 * (minute - minute // 10) if rate == "drop" else 0


def with_left_out(number, rate):
    # The number that the same time would have, if none were left out.
    if rate != "drop":
        return number
    tens, rest = divmod(number, TEN_MINUTES)
    # The first of ten minutes has two times more than each other one.
    minute = 10 * tens + max(rest - 2, 0) // SHORT_MINUTE
    return number + left_out(minute, rate)


def has_form(text, rate):
    if not isinstance(text, str) or len(text) != 11:
        return False
    signs = text[2] + text[5] + text[8]
    figures = text[0:2] + text[3:5] + text[6:8] + text[9:11]
    return signs == ("::;" if rate == "drop" else ":::") and all([figure in FIGURES for figure in figures])


def parts_of(text):
    return [int(text[place:place + 2]) for place in (0, 3, 6, 9)]


def is_time(text, rate):
    if not has_form(text, rate):
        return False
    hours, minutes, seconds, frames = parts_of(text)
    if hours > 23 or minutes > 59 or seconds > 59 or frames >= frames_of_second(rate):
        return False
    return not (rate == "drop" and minutes % 10 != 0 and seconds == 0 and frames < 2)


def size_of_day(rate):
    check_rate(rate)
    return MINUTES_OF_DAY * 60 * frames_of_second(rate) - left_out(MINUTES_OF_DAY, rate)


def time_of(number, rate):
    if not is_between(number, 0, size_of_day(rate) - 1):
        raise BadCount("no time has this number")
    seconds, frames = divmod(with_left_out(number, rate), frames_of_second(rate))
    words = [str(part).zfill(2) for part in (seconds // 3600, seconds // 60 % 60, seconds % 60)]
    return ":".join(words) + (";" if rate == "drop" else ":") + str(frames).zfill(2)


def number_of(text, rate):
    check_rate(rate)
    if not is_time(text, rate):
        raise BadTime("this is no time of the rate")
    hours, minutes, seconds, frames = parts_of(text)
    minute = 60 * hours + minutes
    return (60 * minute + seconds) * frames_of_second(rate) + frames - left_out(minute, rate)


def later(text, by, rate):
    number = number_of(text, rate)
    if not is_between(by, -FARTHEST, FARTHEST):
        raise BadCount("this is no whole number from -1000000000 to 1000000000")
    return time_of((number + by) % size_of_day(rate), rate)


def until(one, other, rate):
    number = number_of(one, rate)
    return (number_of(other, rate) - number) % size_of_day(rate)
