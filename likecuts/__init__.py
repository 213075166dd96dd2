"""Likecuts: a sheet told by distances, laid as fairly as can be."""
