"""Focuswalk: parts on a sheet within parts, walked by keys."""
