"""Toldenough: kinds of rules, and what examples settle."""
