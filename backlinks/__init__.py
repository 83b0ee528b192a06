"""Backlinks: log entries with links back that never cross."""
