"""Surehand: what lies at hand on a quick shelf, in every run."""
