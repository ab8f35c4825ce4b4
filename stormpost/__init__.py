"""Stormpost: post over bad roads."""
