import Derived.Test.YtgihiddiceinhaaDoorKND
namespace Go.Proofs.YtgihiddiceinhaaDoor
open Go.RowKit
end Go.Proofs.YtgihiddiceinhaaDoor
