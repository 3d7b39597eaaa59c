"""Sackloads: loads for a sack."""
