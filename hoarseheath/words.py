"""The bounds of what is handed in."""

CALLERS = 8
WAYS = 10
BEATS = 6
REST = 24
