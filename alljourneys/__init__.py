"""Alljourneys: least prices between all places of an endless map."""
