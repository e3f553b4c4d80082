"""Logsapart: the order of deeds out of logs that several hands kept apart."""
