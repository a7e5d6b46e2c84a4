"""Chainturn: hard questions turned into one another."""
