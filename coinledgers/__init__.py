"""Ledgers in many coins."""
