"""Hiddenrates: what can be known of shares within, by what is seen outside."""
