"""Printed tables that leave repeated cells blank."""
