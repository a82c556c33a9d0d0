"""Pairtests: few tests that meet every pair or three of settings."""
