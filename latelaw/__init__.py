"""Latelaw: works in which each event waits for the latest of others."""
