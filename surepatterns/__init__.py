"""Surepatterns: patterns that every long word meets."""
