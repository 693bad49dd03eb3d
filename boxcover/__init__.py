"""Boxcover: how much boxes cover together."""
