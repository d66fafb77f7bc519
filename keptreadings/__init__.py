"""keptreadings: does every elder text keep its tree?"""
