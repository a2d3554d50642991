"""The numbers up to which the program takes its values."""

MOST_POINTS = 10 ** 18
MOST_FACTOR = 5
MOST_HOSTS = 12
MOST_MARKS = 16
MOST_STEPS = 24
MOST_FURTHER = 6
MOST_WISHES = 6
