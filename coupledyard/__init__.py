"""Coupled wagons that move one place at a time."""
