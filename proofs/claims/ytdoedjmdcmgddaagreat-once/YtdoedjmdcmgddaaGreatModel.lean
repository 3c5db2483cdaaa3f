/- THE DOCUMENT'S RELAY AS PLAIN DATA: what New, Accept, State, Close make of it. My own words; no program text. -/
import GoSem.Op.String
namespace Go.Proofs.YtdoedjmdcmgddaaGreat
set_option linter.unusedVariables false
set_option linter.unusedSimpArgs false

/-- A record as it is sent. -/
structure Rec where
  session : Int
  epoch : Int
  number : Int
  key : ByteArray
  value : Int

/-- One that waits. -/
structure Wt where
  num : Int
  key : ByteArray
  val : Int

/-- A session: those that wait stand by their numbers, rising. -/
structure Ln where
  epoch : Int
  base : Int
  ws : List Wt

/-- What is kept of a key. -/
structure Ky where
  name : ByteArray
  count : Int
  fold : Int
  held : Int

structure St where
  lanes : List Ln
  keys : List Ky

def Ln.init : Ln := ⟨0, 0, []⟩
def St.init : St := ⟨[Ln.init, Ln.init, Ln.init, Ln.init], []⟩

/-- The first byte names a fold. -/
def okFirst (c : UInt8) : Bool := c == 99 || c == 115 || c == 108 || c == 109
def okKey (k : ByteArray) : Bool := match k.data.toList with
  | [] => false
  | c :: _ => okFirst c && decide (k.size ≤ 6)

def less (a b : ByteArray) : Bool := Op.bytesLess a.data.toList b.data.toList

/-- The fold with one value more; the count has it already. -/
def foldOne (name : ByteArray) (count fold val : Int) : Int := match name.data.toList with
  | [] => fold
  | c :: _ => if c == 99 then count else if c == 115 then (fold + val) % 4294967296 else if c == 108 then val else max fold val

def Ky.more (k : Ky) (val : Int) : Ky := ⟨k.name, k.count + 1, foldOne k.name (k.count + 1) k.fold val, k.held⟩

/-- A record is taken. -/
def takeKy (name : ByteArray) (val : Int) : List Ky → List Ky
  | [] => [(⟨name, 0, 0, 0⟩ : Ky).more val]
  | k :: r => if k.name = name then k.more val :: r else if less name k.name then (⟨name, 0, 0, 0⟩ : Ky).more val :: k :: r else k :: takeKy name val r

def putW (x : Wt) : List Wt → List Wt
  | [] => [x]
  | y :: r => if x.num < y.num then x :: y :: r else y :: putW x r

/-- As long as one with the base's number waits. -/
def drainW : Int → List Wt → List Ky → Int × List Wt × List Ky
  | b, [], ks => (b, [], ks)
  | b, x :: r, ks => if x.num = b then drainW (b + 1) r (takeKy x.key x.val ks) else (b, x :: r, ks)

def St.names (s : St) : List ByteArray := s.keys.map (·.name) ++ s.lanes.flatMap (fun l => l.ws.map (·.key))

/-- Is the key among these? -/
def isIn (k : ByteArray) (r : List ByteArray) : Bool := r.any (fun y => decide (y = k))

def distinct : List ByteArray → Nat
  | [] => 0
  | k :: r => if isIn k r then distinct r else distinct r + 1

def counts : List Ky → Int
  | [] => 0
  | k :: r => k.count + counts r

def waits : List Ln → Int
  | [] => 0
  | l :: r => (l.ws.length : Int) + waits r

def St.records (s : St) : Int := counts s.keys + waits s.lanes

def Ln.turned (l : Ln) (e : Int) : Ln := if l.epoch < e then ⟨e, 0, []⟩ else l

/-- Behind the checks of the record itself. -/
def acceptIn (s : St) (i : Nat) (l : Ln) (x : Rec) : (Int × Int) × St :=
  if x.epoch < l.epoch then ((0, 4), s) else
  let c := l.turned x.epoch
  if x.number < 0 ∨ c.base + 4 ≤ x.number then ((0, 5), s) else
  if x.number < c.base ∨ c.ws.any (fun y => y.num == x.number) then ((c.base, 0), s) else
  let t : St := ⟨s.lanes.set i c, s.keys⟩
  if isIn x.key t.names = false ∧ 4 ≤ distinct t.names then ((0, 6), s) else
  if 1000 ≤ t.records then ((0, 7), s) else
  let d := drainW c.base (putW ⟨x.number, x.key, x.value⟩ c.ws) s.keys
  ((d.1, 0), ⟨s.lanes.set i ⟨c.epoch, d.1, d.2.1⟩, d.2.2⟩)

def accept (s : St) (x : Rec) : (Int × Int) × St :=
  if x.session < 0 ∨ 4 ≤ x.session then ((0, 2), s) else
  if okKey x.key = false ∨ x.value < 0 ∨ 4294967295 < x.value then ((0, 3), s) else
  match s.lanes[x.session.toNat]? with
  | none => ((0, 2), s)
  | some l => acceptIn s x.session.toNat l x

/-- A closed relay is 'none'. -/
def accept? : Option St → Rec → (Int × Int) × Option St
  | none, _ => ((0, 1), none)
  | some s, x => ((accept s x).1, some (accept s x).2)

def state? : Option St → St
  | none => ⟨[], []⟩
  | some s => s

def errno? : Option St → Int
  | none => 1
  | some _ => 0

end Go.Proofs.YtdoedjmdcmgddaaGreat
