"""Tests of turndoors."""
