"""Quietprobes: rows that only look must change nothing."""
