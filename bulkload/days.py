"""The numbers of the days of the Gregorian calendar: 0001-01-01 has the number 1."""

LAST_DAY = 3652059
DAYS_IN_MONTHS = (31, 28, 31, 30, 31, 30, 31, 31, 30, 31, 30, 31)


def is_leap(year):
    return year % 4 == 0 and (year % 100 != 0 or year % 400 == 0)


def days_in_month(year, month):
    if month == 2 and is_leap(year):
        return 29
    return DAYS_IN_MONTHS[month - 1]


def days_before_year(year):
    before = year - 1
    return 365 * before + before // 4 - before // 100 + before // 400


def is_day(year, month, day):
    """Whether there is this day; the year has at most four digits."""
    if year < 1 or not 1 <= month <= 12:
        return False
    return 1 <= day <= days_in_month(year, month)


def number_of_day(year, month, day):
    earlier = sum([days_in_month(year, before) for before in range(1, month)])
    return days_before_year(year) + earlier + day


def day_with_number(number):
    """The year, the month and the day of a number from 1 to LAST_DAY."""
    # No year has more than 366 days, so this one is not too late.
    year = number // 366 + 1
    while days_before_year(year + 1) < number:
        year += 1
    day = number - days_before_year(year)
    month = 1
    while day > days_in_month(year, month):
        day -= days_in_month(year, month)
        month += 1
    return (year, month, day)
