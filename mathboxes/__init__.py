"""Mathboxes: how formulas become boxes."""
