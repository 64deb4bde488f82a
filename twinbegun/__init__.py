"""Any stretch of an event log, replayed from a few kept tables."""
