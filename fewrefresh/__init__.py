"""Fewrefresh: the cheapest refreshes of a network of caches under which every answer stays within its tolerance."""
