"""Turndoors: doors that turn behind the walker."""
