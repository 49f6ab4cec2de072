"""Touchcaps: lists by last use, touched, forgotten and cut short."""
