"""Anytempo: cues told by beats and by seconds, compared for every tempo map."""
