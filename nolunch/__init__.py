"""Nolunch: safe prices of contracts in finite markets."""
