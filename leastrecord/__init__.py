"""Runs of several hands, and the least that must be kept of them."""
