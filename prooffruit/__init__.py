"""Prooffruit: programs that grounds of whole-number sayings yield."""
