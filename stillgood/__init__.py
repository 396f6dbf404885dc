"""Stillgood: answers that still hold when the calls are run."""
