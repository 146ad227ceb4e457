"""Hoarseheath: callers on a heath, who answer unless they're hoarse."""
