import PyProof.Rows.All
import Wide.All
import OpenK.AllK
import Wide.FinOn
import HandS.ForMost
import HandS.ForExc
import HandS.Evl
import HandS.WideBits
import HandS.StrMore
import HandS.StrSplit
import HandS.FStr
import HandS.IsInst
import HandS.TupMul
import HandS.TupAny
import HandS.SetKeys
import HandS.Deep
import HandS.Replace
import HandS.ReplaceList
import HandS.ReplaceLit
import HandS.ReplaceDef
import HandS.NoneIn
import HandS.Wide
import HandS.Codes
import HandS.Style
import PyProof.StrOps2
import KE.DataEq
import HandS.More
import HandS.Conv
import HandS.Star
import HandS.ListItems
import HandS.Small
import KE.DataFind
import PyProof.NeKinds
import HandS.SetBool
import KE.KSetInts
import PyProof.ZipIter
import KE.KDictItemsList
import HandS.Comp
import HandS.Text
import HandS.TupLe
import HandS.Dict
import HandS.Flow
import KE.DataMinMax
import PyProof.Rows.CallKwBuiltin
import PyProof.Rows.StrPins
import PyProof.StrLawsFrom
import PyProof.StrLawsAffix
import KE.IntTextLaws
import PyProof.Rows.RegReprOcc
import PyProof.StrLawsTight
import PyProof.Rows.StrPartPair
import KE.KIntText
import PyProof.Rows.StrSplitJoin
import PySem.Challenge.RW_freshpage_k21_looks_of_single_tags
set_option Elab.async false
set_option linter.all false
set_option maxRecDepth 100000
section
namespace VI
open PySem PySem.Spec PyProof.Rows L2

/-! ### values, memory -/
inductive D where
  | non | bl (b : Bool) | int (i : Int) | str (s : List Nat)
  | tup (ds : List D) | lst (ds : List D) | lsk (ds : List D) | cell (n : Nat) | ty (n : String)
inductive O where
  | dead | lst (ds : List D) | dct (kvs : List (Key × D)) | ins (c : Str) (fs : List (Str × D))
abbrev Mem := List O
abbrev Env := List (Option D)
def S (l : List Nat) : Str := ⟨l.toArray⟩
@[simp] theorem S_tl (l : List Nat) : (S l).cps.toList = l := by simp [S]
@[simp] theorem S_len (l : List Nat) : (S l).length = l.length := by simp [S, Str.length]
theorem S_mk (x : Str) : S x.cps.toList = x := Str.ext' (by simp [S])
theorem S_inj {a b : List Nat} (h : S a = S b) : a = b := by
  have := congrArg (fun x => x.cps.toList) h
  simpa using this
theorem S_app (a b : List Nat) : S a ++ S b = S (a ++ b) := by
  apply Str.ext'
  rw [Str.cps_append]
  simp [S]

mutual
inductive VR (K : PySem.W.Frag) (F : Hp) (φ : List Addr) : D → V → Prop
  | non : VR K F φ .non .non
  | bl (b : Bool) : VR K F φ (.bl b) (.bl b)
  | int (i : Int) : VR K F φ (.int i) (.int i)
  | str (s : List Nat) : VR K F φ (.str s) (.str (S s))
  | tup {a : Addr} {ds : List D} {vs : List V} : SqT K F a vs → VRs K F φ ds vs → VR K F φ (.tup ds) (.ref a)
  | lst {a : Addr} {ds : List D} {vs : List V} : F a = some (.lst vs) → VRs K F φ ds vs → VR K F φ (.lst ds) (.ref a)
  | lsk {a : Addr} {ds : List D} {vs : List V} : SqL K F a vs → VRs K F φ ds vs → VR K F φ (.lsk ds) (.ref a)
  | cell {i : Nat} {a : Addr} : φ[i]? = some a → VR K F φ (.cell i) (.ref a)
  | ty (n : String) : VR K F φ (.ty n) (.ty n)
inductive VRs (K : PySem.W.Frag) (F : Hp) (φ : List Addr) : List D → List V → Prop
  | nil : VRs K F φ [] []
  | cons {d : D} {ds : List D} {v : V} {vs : List V} : VR K F φ d v → VRs K F φ ds vs → VRs K F φ (d :: ds) (v :: vs)
end

def Pre (φ φ' : List Addr) : Prop := ∀ (i : Nat) (a : Addr), φ[i]? = some a → φ'[i]? = some a
theorem Pre.refl (φ : List Addr) : Pre φ φ := fun _ _ h => h
theorem Pre.trans {a b c : List Addr} (h : Pre a b) (g : Pre b c) : Pre a c := fun i x e => g i x (h i x e)
theorem Pre.snoc (φ : List Addr) (a : Addr) : Pre φ (φ ++ [a]) := fun i x e => by
  rw [List.getElem?_append_left (List.getElem?_eq_some_iff.mp e).1]
  exact e

section
variable {K : PySem.W.Frag} {F F' : Hp} {φ φ' : List Addr}
mutual
theorem VR.mono (e : Evl.Ex F F') (p : Pre φ φ') : ∀ {d : D} {v : V}, VR K F φ d v → VR K F' φ' d v
  | _, _, .non => .non
  | _, _, .bl b => .bl b
  | _, _, .int i => .int i
  | _, _, .str s => .str s
  | _, _, .tup h r => .tup (Evl.ex_t e h) (VRs.mono e p r)
  | _, _, .lst h r => .lst (e _ _ h) (VRs.mono e p r)
  | _, _, .lsk h r => .lsk (Evl.ex_l e h) (VRs.mono e p r)
  | _, _, .cell h => .cell (p _ _ h)
  | _, _, .ty n => .ty n
theorem VRs.mono (e : Evl.Ex F F') (p : Pre φ φ') : ∀ {ds : List D} {vs : List V}, VRs K F φ ds vs → VRs K F' φ' ds vs
  | _, _, .nil => .nil
  | _, _, .cons h r => .cons (VR.mono e p h) (VRs.mono e p r)
end
theorem VRs.len : ∀ {ds : List D} {vs : List V}, VRs K F φ ds vs → ds.length = vs.length
  | _, _, .nil => rfl
  | _, _, .cons _ r => by rw [List.length_cons, List.length_cons, VRs.len r]
theorem VRs.get : ∀ {ds : List D} {vs : List V} {i : Nat} {d : D}, VRs K F φ ds vs → ds[i]? = some d → ∃ v, vs[i]? = some v ∧ VR K F φ d v
  | _, _, _, _, .nil, e => by simp at e
  | _, _, 0, _, .cons r _, e => by simp at e; subst e; exact ⟨_, rfl, r⟩
  | _, _, i + 1, d, .cons _ t, e => by
    obtain ⟨v, h1, h2⟩ := VRs.get (i := i) (d := d) t (by simpa using e)
    exact ⟨v, by simpa using h1, h2⟩
theorem VRs.app : ∀ {ds es : List D} {vs ws : List V}, VRs K F φ ds vs → VRs K F φ es ws → VRs K F φ (ds ++ es) (vs ++ ws)
  | _, _, _, _, .nil, h => h
  | _, _, _, _, .cons a r, h => .cons a (VRs.app r h)
theorem VRs.take : ∀ {ds : List D} {vs : List V} (n : Nat), VRs K F φ ds vs → VRs K F φ (ds.take n) (vs.take n)
  | _, _, 0, _ => .nil
  | _, _, _ + 1, .nil => .nil
  | _, _, n + 1, .cons a r => .cons a (VRs.take n r)
theorem VRs.drop : ∀ {ds : List D} {vs : List V} (n : Nat), VRs K F φ ds vs → VRs K F φ (ds.drop n) (vs.drop n)
  | _, _, 0, r => r
  | _, _, _ + 1, .nil => .nil
  | _, _, n + 1, .cons _ r => VRs.drop n r
theorem VRs.set {d : D} {v : V} (h : VR K F φ d v) : ∀ {ds : List D} {vs : List V} (i : Nat), VRs K F φ ds vs → VRs K F φ (ds.set i d) (vs.set i v)
  | _, _, _, .nil => .nil
  | _, _, 0, .cons _ r => .cons h r
  | _, _, i + 1, .cons a r => .cons a (VRs.set h i r)
theorem VRs.ints : ∀ (ns : List Int), VRs K F φ (ns.map D.int) (ns.map V.int)
  | [] => .nil
  | n :: r => .cons (.int n) (VRs.ints r)
theorem VRs.strs : ∀ (ns : List (List Nat)), VRs K F φ (ns.map D.str) ((ns.map S).map V.str)
  | [] => .nil
  | n :: r => .cons (.str n) (VRs.strs r)
theorem VRs.ints_inv : ∀ {ns : List Int} {vs : List V}, VRs K F φ (ns.map D.int) vs → vs = ns.map V.int
  | [], _, .nil => rfl
  | n :: r, _, .cons (.int _) t => by rw [VRs.ints_inv t]; rfl
theorem VRs.strs_inv : ∀ {ns : List (List Nat)} {vs : List V}, VRs K F φ (ns.map D.str) vs → vs = (ns.map S).map V.str
  | [], _, .nil => rfl
  | n :: r, _, .cons (.str _) t => by rw [VRs.strs_inv t]; rfl
theorem VRs.rev : ∀ {ds : List D} {vs : List V}, VRs K F φ ds vs → VRs K F φ ds.reverse vs.reverse
  | _, _, .nil => .nil
  | _, _, .cons h r => by
    rw [List.reverse_cons, List.reverse_cons]
    exact (VRs.rev r).app (.cons h .nil)
end

/-! ### the heap represented -/
def Live (φ : List Addr) (m : Mem) (a : Addr) : Prop := ∃ (i : Nat) (o : O), m[i]? = some o ∧ o ≠ O.dead ∧ φ[i]? = some a
/-- pairs of a dict -/
inductive KR (K : PySem.W.Frag) (F : Hp) (φ : List Addr) : List (Key × D) → List (Key × V) → Prop
  | nil : KR K F φ [] []
  | cons {k : Key} {d : D} {v : V} {ds vs} : VR K F φ d v → KR K F φ ds vs → KR K F φ ((k, d) :: ds) ((k, v) :: vs)
inductive FR (K : PySem.W.Frag) (F : Hp) (φ : List Addr) : List (Str × D) → List (Str × V) → Prop
  | nil : FR K F φ [] []
  | cons {k : Str} {d : D} {v : V} {ds vs} : VR K F φ d v → FR K F φ ds vs → FR K F φ ((k, d) :: ds) ((k, v) :: vs)
def OR (K : PySem.W.Frag) (F : Hp) (φ : List Addr) : O → HO → Prop
  | .lst ds, h => ∃ vs, h = .lst vs ∧ VRs K F φ ds vs
  | .dct kvs, h => ∃ vs, h = .dK vs ∧ KR K F φ kvs vs
  | .ins c fs, h => ∃ C dx vs, PySem.W.nsIn K mainGlobals c = some (some (.ref C)) ∧ h = .ins C dx vs ∧ FR K F φ fs vs
  | .dead, _ => False
section
variable {K : PySem.W.Frag} {F F' : Hp} {φ φ' : List Addr}
theorem KR.mono (e : Evl.Ex F F') (p : Pre φ φ') : ∀ {ds vs}, KR K F φ ds vs → KR K F' φ' ds vs
  | _, _, .nil => .nil
  | _, _, .cons h r => .cons (h.mono e p) (KR.mono e p r)
theorem FR.mono (e : Evl.Ex F F') (p : Pre φ φ') : ∀ {ds vs}, FR K F φ ds vs → FR K F' φ' ds vs
  | _, _, .nil => .nil
  | _, _, .cons h r => .cons (h.mono e p) (FR.mono e p r)
theorem OR.mono (e : Evl.Ex F F') (p : Pre φ φ') {o : O} {h : HO} (r : OR K F φ o h) : OR K F' φ' o h := by
  cases o with
  | dead => exact r
  | lst ds => obtain ⟨vs, q, r⟩ := r; exact ⟨vs, q, r.mono e p⟩
  | dct ds => obtain ⟨vs, q, r⟩ := r; exact ⟨vs, q, r.mono e p⟩
  | ins c ds => obtain ⟨C, dx, vs, n, q, r⟩ := r; exact ⟨C, dx, vs, n, q, r.mono e p⟩
end

structure Rep (K : PySem.W.Frag) (F : Hp) (φ : List Addr) (m : Mem) (H : Hp) : Prop where
  len : φ.length = m.length
  ex : Evl.Ex F H
  cell : ∀ (i : Nat) (o : O) (a : Addr), m[i]? = some o → o ≠ O.dead → φ[i]? = some a → F a = none ∧ ∃ h, H a = some h ∧ OR K F φ o h
  inj : ∀ (i j : Nat) (o o' : O) (a : Addr), m[i]? = some o → o ≠ O.dead → m[j]? = some o' → o' ≠ O.dead → φ[i]? = some a → φ[j]? = some a → i = j
structure Nxt (K : PySem.W.Frag) (F : Hp) (φ : List Addr) (m : Mem) (H : Hp) (F' : Hp) (φ' : List Addr) (m' : Mem) (H' : Hp) : Prop where
  exF : Evl.Ex F F'
  pre : Pre φ φ'
  rep : Rep K F' φ' m' H'
  keep : ∀ a o, H a = some o → ¬ Live φ m a → H' a = some o ∧ ¬ Live φ' m' a ∧ F' a = F a
section
variable {K : PySem.W.Frag} {F F1 F2 : Hp} {φ φ1 φ2 : List Addr} {m m1 m2 : Mem} {H H1 H2 : Hp}
theorem Nxt.refl (r : Rep K F φ m H) : Nxt K F φ m H F φ m H := ⟨Evl.Ex.refl _, Pre.refl _, r, fun a o h n => ⟨h, n, rfl⟩⟩
theorem Nxt.trans (a : Nxt K F φ m H F1 φ1 m1 H1) (b : Nxt K F1 φ1 m1 H1 F2 φ2 m2 H2) : Nxt K F φ m H F2 φ2 m2 H2 :=
  ⟨a.exF.trans b.exF, a.pre.trans b.pre, b.rep, fun x o h n => by
    obtain ⟨h1, n1, e1⟩ := a.keep x o h n
    obtain ⟨h2, n2, e2⟩ := b.keep x o h1 n1
    exact ⟨h2, n2, e2.trans e1⟩⟩
theorem Rep.live_some (r : Rep K F φ m H) {a : Addr} (h : Live φ m a) : ∃ o, H a = some o := by
  obtain ⟨i, o, h1, h2, h3⟩ := h
  obtain ⟨_, x, e, _⟩ := r.cell i o a h1 h2 h3
  exact ⟨x, e⟩
/-- a new object that never changes -/
theorem Rep.frozen (r : Rep K F φ m H) {p : Addr} {o : HO} (hp : H p = none) : Nxt K F φ m H (upd F p o) φ m (upd H p o) := by
  have hF : F p = none := by
    cases e : F p with
    | none => rfl
    | some x => rw [r.ex p x e] at hp; cases hp
  have nl : ∀ (i : Nat) (o : O) (a : Addr), m[i]? = some o → o ≠ O.dead → φ[i]? = some a → a ≠ p := fun i o a h1 h2 h3 e => by
    subst e
    obtain ⟨_, x, e, _⟩ := r.cell i o a h1 h2 h3
    rw [hp] at e; cases e
  refine ⟨Evl.Ex.new hF, Pre.refl _, ⟨r.len, fun a x h => ?_, fun i o' a h1 h2 h3 => ?_, r.inj⟩, fun a x h n => ?_⟩
  · by_cases e : a = p
    · subst e; rw [upd_same] at h ⊢; exact h
    · rw [upd_ne e] at h ⊢; exact r.ex a x h
  · obtain ⟨q1, x, q2, q3⟩ := r.cell i o' a h1 h2 h3
    have ne := nl i o' a h1 h2 h3
    exact ⟨by rw [upd_ne ne]; exact q1, x, by rw [upd_ne ne]; exact q2, q3.mono (Evl.Ex.new hF) (Pre.refl _)⟩
  · have ne : a ≠ p := fun e => by subst e; rw [hp] at h; cases h
    exact ⟨by rw [upd_ne ne]; exact h, n, by rw [upd_ne ne]⟩
/-- a new cell -/
theorem Rep.alloc (r : Rep K F φ m H) {p : Addr} {o : HO} {x : O} (hp : H p = none) (hx : x ≠ O.dead) (ho : OR K F φ x o) : Nxt K F φ m H F (φ ++ [p]) (m ++ [x]) (upd H p o) := by
  have hF : F p = none := by
    cases e : F p with
    | none => rfl
    | some x => rw [r.ex p x e] at hp; cases hp
  have nl : ∀ (i : Nat) (o : O) (a : Addr), m[i]? = some o → o ≠ O.dead → φ[i]? = some a → a ≠ p := fun i o a h1 h2 h3 e => by
    subst e
    obtain ⟨_, x, e, _⟩ := r.cell i o a h1 h2 h3
    rw [hp] at e; cases e
  have spl : ∀ (i : Nat) (y : O) (a : Addr), (m ++ [x])[i]? = some y → (φ ++ [p])[i]? = some a → (m[i]? = some y ∧ φ[i]? = some a) ∨ (i = m.length ∧ y = x ∧ a = p) := fun i y a h1 h2 => by
    by_cases hi : i < m.length
    · rw [List.getElem?_append_left hi] at h1
      rw [List.getElem?_append_left (by rw [r.len]; exact hi)] at h2
      exact .inl ⟨h1, h2⟩
    · have hb := (List.getElem?_eq_some_iff.mp h1).1
      rw [List.length_append] at hb
      have e : i = m.length := by simp at hb; omega
      subst e
      rw [List.getElem?_append_right (Nat.le_refl _)] at h1
      rw [← r.len, List.getElem?_append_right (Nat.le_refl _)] at h2
      simp at h1 h2
      exact .inr ⟨rfl, h1.symm, h2.symm⟩
  refine ⟨Evl.Ex.refl _, Pre.snoc _ _, ⟨by simp [r.len], fun a y h => ?_, fun i y a h1 h2 h3 => ?_, fun i j y y' a h1 h2 h3 h4 h5 h6 => ?_⟩, fun a y h n => ?_⟩
  · have ne : a ≠ p := fun e => by subst e; rw [hF] at h; cases h
    rw [upd_ne ne]; exact r.ex a y h
  · rcases spl i y a h1 h3 with ⟨g1, g3⟩ | ⟨e1, e2, e3⟩
    · obtain ⟨q1, z, q2, q3⟩ := r.cell i y a g1 h2 g3
      exact ⟨q1, z, by rw [upd_ne (nl i y a g1 h2 g3)]; exact q2, q3.mono (Evl.Ex.refl _) (Pre.snoc _ _)⟩
    · subst e2 e3
      exact ⟨hF, o, upd_same, ho.mono (Evl.Ex.refl _) (Pre.snoc _ _)⟩
  · rcases spl i y a h1 h5 with ⟨g1, g3⟩ | ⟨e1, e2, e3⟩ <;> rcases spl j y' a h3 h6 with ⟨g1', g3'⟩ | ⟨e1', e2', e3'⟩
    · exact r.inj i j y y' a g1 h2 g1' h4 g3 g3'
    · exact absurd e3' (nl i y a g1 h2 g3)
    · exact absurd e3 (nl j y' a g1' h4 g3')
    · rw [e1, e1']
  · have ne : a ≠ p := fun e => by subst e; rw [hp] at h; cases h
    refine ⟨by rw [upd_ne ne]; exact h, fun ⟨i, y, h1, h2, h3⟩ => ?_, rfl⟩
    rcases spl i y a h1 h3 with ⟨g1, g3⟩ | ⟨_, _, e3⟩
    · exact n ⟨i, y, g1, h2, g3⟩
    · exact ne e3
/-- a cell is written -/
theorem Rep.write (r : Rep K F φ m H) {i : Nat} {p : Addr} {x y : O} {o : HO} (hi : m[i]? = some x) (hx : x ≠ O.dead) (hp : φ[i]? = some p) (hy : y ≠ O.dead) (ho : OR K F φ y o) : Nxt K F φ m H F φ (m.set i y) (upd H p o) := by
  obtain ⟨hF, _⟩ := r.cell i x p hi hx hp
  have hil := (List.getElem?_eq_some_iff.mp hi).1
  have spl : ∀ (j : Nat) (z : O) (a : Addr), (m.set i y)[j]? = some z → z ≠ O.dead → φ[j]? = some a → (j = i ∧ z = y ∧ a = p) ∨ (j ≠ i ∧ m[j]? = some z ∧ a ≠ p) := fun j z a h1 h2 h3 => by
    by_cases e : j = i
    · subst e
      rw [List.getElem?_set_self hil] at h1
      rw [hp] at h3
      exact .inl ⟨rfl, (Option.some.inj h1).symm, (Option.some.inj h3).symm⟩
    · rw [List.getElem?_set_ne (Ne.symm e)] at h1
      refine .inr ⟨e, h1, fun q => e ?_⟩
      subst q
      exact r.inj j i z x a h1 h2 hi hx h3 hp
  refine ⟨Evl.Ex.refl _, Pre.refl _, ⟨by simp [r.len], fun a z h => ?_, fun j z a h1 h2 h3 => ?_, fun j k z z' a h1 h2 h3 h4 h5 h6 => ?_⟩, fun a z h n => ?_⟩
  · have ne : a ≠ p := fun e => by subst e; rw [hF] at h; cases h
    rw [upd_ne ne]; exact r.ex a z h
  · rcases spl j z a h1 h2 h3 with ⟨_, rfl, rfl⟩ | ⟨_, g1, ne⟩
    · exact ⟨hF, o, upd_same, ho⟩
    · obtain ⟨q1, w, q2, q3⟩ := r.cell j z a g1 h2 h3
      exact ⟨q1, w, by rw [upd_ne ne]; exact q2, q3⟩
  · rcases spl j z a h1 h2 h5 with ⟨e1, _, e3⟩ | ⟨_, g1, ne⟩ <;> rcases spl k z' a h3 h4 h6 with ⟨e1', _, e3'⟩ | ⟨_, g1', ne'⟩
    · rw [e1, e1']
    · exact absurd e3 ne'
    · exact absurd e3' ne
    · exact r.inj j k z z' a g1 h2 g1' h4 h5 h6
  · have ne : a ≠ p := fun e => by subst e; exact n ⟨i, x, hi, hx, hp⟩
    refine ⟨by rw [upd_ne ne]; exact h, fun ⟨j, z, h1, h2, h3⟩ => ?_, rfl⟩
    rcases spl j z a h1 h2 h3 with ⟨_, _, e3⟩ | ⟨_, g1, _⟩
    · exact ne e3
    · exact n ⟨j, z, g1, h2, h3⟩
/-- a list's cell is given up: from here on it is a value -/
theorem Rep.freeze (r : Rep K F φ m H) {i : Nat} {p : Addr} {ds : List D} (hi : m[i]? = some (.lst ds)) (hp : φ[i]? = some p) :
    ∃ vs, H p = some (.lst vs) ∧ VRs K F φ ds vs ∧ Nxt K F φ m H (upd F p (.lst vs)) φ (m.set i O.dead) H := by
  obtain ⟨hF, o, ho, vs, rfl, rv⟩ := r.cell i _ p hi (fun e => nomatch e) hp
  have hil := (List.getElem?_eq_some_iff.mp hi).1
  refine ⟨vs, ho, rv, Evl.Ex.new hF, Pre.refl _, ⟨by simp [r.len], fun a z h => ?_, fun j z a h1 h2 h3 => ?_, fun j k z z' a h1 h2 h3 h4 h5 h6 => ?_⟩, fun a z h n => ?_⟩
  · by_cases e : a = p
    · subst e; rw [upd_same] at h; rw [ho]; exact h
    · rw [upd_ne e] at h; exact r.ex a z h
  · have e : j ≠ i := fun e => by subst e; rw [List.getElem?_set_self hil] at h1; exact h2 (Option.some.inj h1).symm
    rw [List.getElem?_set_ne (Ne.symm e)] at h1
    have ne : a ≠ p := fun q => e (by subst q; exact r.inj j i z _ a h1 h2 hi (fun e => nomatch e) h3 hp)
    obtain ⟨q1, w, q2, q3⟩ := r.cell j z a h1 h2 h3
    exact ⟨by rw [upd_ne ne]; exact q1, w, q2, q3.mono (Evl.Ex.new hF) (Pre.refl _)⟩
  · have e : j ≠ i := fun e => by subst e; rw [List.getElem?_set_self hil] at h1; exact h2 (Option.some.inj h1).symm
    have e' : k ≠ i := fun e => by subst e; rw [List.getElem?_set_self hil] at h3; exact h4 (Option.some.inj h3).symm
    rw [List.getElem?_set_ne (Ne.symm e)] at h1
    rw [List.getElem?_set_ne (Ne.symm e')] at h3
    exact r.inj j k z z' a h1 h2 h3 h4 h5 h6
  · have ne : a ≠ p := fun e => by subst e; exact n ⟨i, _, hi, (fun e => nomatch e), hp⟩
    refine ⟨h, fun ⟨j, w, h1, h2, h3⟩ => ?_, by rw [upd_ne ne]⟩
    have e : j ≠ i := fun e => by subst e; rw [List.getElem?_set_self hil] at h1; exact h2 (Option.some.inj h1).symm
    rw [List.getElem?_set_ne (Ne.symm e)] at h1
    exact n ⟨j, w, h1, h2, h3⟩
end
end VI
end
section
namespace VI
open PySem PySem.Spec PyProof.Rows L2

abbrev EF := Env → Mem → Option (D × Mem)
abbrev AF := Env → Mem → Option (List D × Mem)
abbrev TF := Env → Mem → Option (Bool × Mem)
inductive Fl where
  | nx (ρ : Env) | rt (d : D) | bk (ρ : Env) | ct (ρ : Env)
abbrev BF := Env → Mem → Option (Fl × Mem)
abbrev GF := D → Env → Mem → Option (Env × Mem)
abbrev GFs := List D → Env → Mem → Option (Env × Mem)
abbrev FD := List D → Mem → Option (D × Mem)

def wipeD (ρ : Env) : List Nat → Env
  | [] => ρ
  | i :: is => (wipeD ρ is).set i none
structure EnvR (K : PySem.W.Frag) (F : Hp) (φ : List Addr) (ρ : Env) (σ : L2.St) : Prop where
  len : ρ.length = σ.length
  at_ : ∀ (i : Nat) (d : D), ρ[i]? = some (some d) → ∃ v, σ[i]? = some (some v) ∧ VR K F φ d v
section
variable {K : PySem.W.Frag} {F F' : Hp} {φ φ' : List Addr} {ρ : Env} {σ : L2.St}
theorem EnvR.mono (e : Evl.Ex F F') (p : Pre φ φ') (r : EnvR K F φ ρ σ) : EnvR K F' φ' ρ σ := ⟨r.len, fun i d h => by
  obtain ⟨v, h1, h2⟩ := r.at_ i d h
  exact ⟨v, h1, h2.mono e p⟩⟩
theorem EnvR.set (r : EnvR K F φ ρ σ) (i : Nat) {d : D} {v : V} (h : VR K F φ d v) : EnvR K F φ (ρ.set i (some d)) (σ.set i (some v)) := by
  refine ⟨by simp [r.len], fun j e q => ?_⟩
  by_cases hj : j = i
  · subst hj
    have hb : j < ρ.length := by
      have := (List.getElem?_eq_some_iff.mp q).1
      simpa using this
    rw [List.getElem?_set_self hb] at q
    have q2 : d = e := by injection (Option.some.inj q)
    subst q2
    exact ⟨v, by rw [List.getElem?_set_self (by rw [← r.len]; exact hb)], h⟩
  · rw [List.getElem?_set_ne (Ne.symm hj)] at q ⊢
    exact r.at_ j e q
theorem EnvR.wipe (r : EnvR K F φ ρ σ) : ∀ vs : List Nat, EnvR K F φ (wipeD ρ vs) (L2.wipe σ vs)
  | [] => r
  | v :: vs => by
    have ih := EnvR.wipe r vs
    unfold wipeD L2.wipe
    refine ⟨by simp [ih.len], fun i d h => ?_⟩
    by_cases e : i = v
    · subst e
      have hb := (List.getElem?_eq_some_iff.mp h).1
      rw [List.getElem?_set_self (by simpa using hb)] at h
      cases h
    · rw [List.getElem?_set_ne (Ne.symm e)] at h ⊢
      exact ih.at_ i d h
theorem EnvR.begin {ds : List D} {vs : List V} {N : List Str} {n : Nat} (hN : N.length = n) (h : VRs K F φ ds vs) : EnvR K F φ (ds.map some ++ List.replicate (n - ds.length) none) (L2.start N vs) := by
  subst hN
  unfold L2.start
  refine ⟨by simp [h.len], fun i d e => ?_⟩
  by_cases hi : i < ds.length
  · rw [List.getElem?_append_left (by simpa using hi), List.getElem?_map] at e
    cases q : ds[i]? with
    | none => rw [q] at e; cases e
    | some d' =>
      rw [q] at e
      have e2 : d' = d := by injection (Option.some.inj e)
      subst e2
      obtain ⟨v, h1, h2⟩ := h.get q
      exact ⟨v, by rw [List.getElem?_append_left (by simp; rw [← h.len]; exact hi), List.getElem?_map, h1]; rfl, h2⟩
  · rw [List.getElem?_append_right (by simpa using hi), List.getElem?_replicate] at e
    split at e <;> cases e
end

/-! ### what is wanted, as the weakest readings -/
section
variable (X : Cx)
def WE (e : Expr) : TE := fun σ H Q => ∀ pins s, Inv X pins σ H s → wpAny (model X.prog X.w) X.A (eval e X.env) (EP X pins σ Q) X.xe s
def WT (e : Expr) : TT := fun σ H Q => ∀ pins s, Inv X pins σ H s → wpAny (model X.prog X.w) X.A (isTrue e X.env (eval e X.env)) (TP X pins σ Q) X.xe s
def WW (e : Expr) : TT := fun σ H Q => ∀ (whole : Sem Value) pins s, Inv X pins σ H s → wpAny (model X.prog X.w) X.A (isTrue e X.env whole) (TP X pins σ Q) X.xe s
def WA (es : List Expr) : TA := fun σ H Q => ∀ (pos : Pos) pins s, Inv X pins σ H s → wpAny (model X.prog X.w) X.A (spliced (backTo pos (starEach es X.env))) (AP X pins σ Q) X.xe s
def WS (st : Stmt) : TS := fun D σ H => ∀ pins s, Inv X pins σ H s → wpAny (model X.prog X.w) X.A (exec st X.env) (SP X pins D) X.xe s
def WB (st : List Stmt) : TS := fun D σ H => ∀ pins s, Inv X pins σ H s → wpAny (model X.prog X.w) X.A (execs st X.env) (SP X pins D) X.xe s
def WG (tg : Expr) : TG := fun v σ H Q => ∀ pins s u, Inv X pins σ H s → RelV v u → wpAny (model X.prog X.w) X.A (assign tg X.env u) (fun _ s' => ∃ σ' H', Inv X pins σ' H' s' ∧ Q σ' H') X.xe s
def WGs (ts : List Expr) : TGs := fun vs σ H Q => ∀ pins s us, Inv X pins σ H s → Vals vs us → wpAny (model X.prog X.w) X.A (assignInOrder ((assignEach ts X.env).map (·.2)) us) (fun _ s' => ∃ σ' H', Inv X pins σ' H' s' ∧ Q σ' H') X.xe s
def WI (tg iter : Expr) : TI := fun σ H R => ∀ pins s, Inv X pins σ H s → wpAny (model X.prog X.w) X.A (eval iter X.env) (fun v s1 => wpAny (model X.prog X.w) X.A (pyIter v) (PIE X pins σ tg R) X.xe s1) X.xe s
end
section
variable {X : Cx} {e tg : Expr} {es : List Expr} {st : Stmt} {sts : List Stmt}
theorem pe_w : PE X e (WE X e) := ⟨fun pins s σ H Q I h => h pins s I⟩
theorem pt_w : PT X e (WT X e) := ⟨fun pins s σ H Q I h => h pins s I⟩
theorem pw_w : PW X e (WW X e) := ⟨fun w pins s σ H Q I h => h w pins s I⟩
theorem pa_w : PA X es (WA X es) := ⟨fun pos pins s σ H Q I h => h pos pins s I⟩
theorem ps_w : PS X st (WS X st) := ⟨fun pins s σ H D I h => h pins s I⟩
theorem pss_w : PSs X sts (WB X sts) := ⟨fun pins s σ H D I h => h pins s I⟩
theorem pg_w : PG X tg (WG X tg) := ⟨fun pins s σ H v u Q I r h => h pins s u I r⟩
theorem pgs_w : PGs X es (WGs X es) := ⟨fun pins s σ H v u Q I r h => h pins s u I r⟩
theorem pi_w : PI X tg e (WI X tg e) := ⟨fun pins s σ H R I h => h pins s I⟩
theorem we_of {t : TE} (h : PE X e t) {σ H Q} (q : t σ H Q) : WE X e σ H Q := fun pins s I => h.run pins s σ H Q I q
theorem wt_of {t : TT} (h : PT X e t) {σ H Q} (q : t σ H Q) : WT X e σ H Q := fun pins s I => h.run pins s σ H Q I q
theorem ww_of {t : TT} (h : PW X e t) {σ H Q} (q : t σ H Q) : WW X e σ H Q := fun w pins s I => h.run w pins s σ H Q I q
theorem wa_of {t : TA} (h : PA X es t) {σ H Q} (q : t σ H Q) : WA X es σ H Q := fun pos pins s I => h.run pos pins s σ H Q I q
theorem ws_of {t : TS} (h : PS X st t) {σ H D} (q : t D σ H) : WS X st D σ H := fun pins s I => h.run pins s σ H D I q
theorem wb_of {t : TS} (h : PSs X sts t) {σ H D} (q : t D σ H) : WB X sts D σ H := fun pins s I => h.run pins s σ H D I q
theorem wg_of {t : TG} (h : PG X tg t) {v σ H Q} (q : t v σ H Q) : WG X tg v σ H Q := fun pins s u I r => h.run pins s σ H v u Q I r q
theorem wgs_of {t : TGs} (h : PGs X es t) {v σ H Q} (q : t v σ H Q) : WGs X es v σ H Q := fun pins s u I r => h.run pins s σ H v u Q I r q
theorem wi_of {t : TI} (h : PI X tg e t) {σ H Q} (q : t σ H Q) : WI X tg e σ H Q := fun pins s I => h.run pins s σ H Q I q
end

/-! ### the judgements -/
/-- J walks ds -/
structure ItD (K : PySem.W.Frag) (F : Hp) (φ : List Addr) (J : It) (ds : List D) : Prop where
  go : ∀ (i : Nat) (H : Hp), Evl.Ex F H → i < ds.length → J.go i H
  yld : ∀ (i : Nat) (F1 : Hp) (φ1 : List Addr) (m1 : Mem) (H : Hp) (x : V) (H' : Hp) (d : D), Rep K F1 φ1 m1 H → Evl.Ex F F1 → Pre φ φ1 → ds[i]? = some d → J.yld i H x H' → ∃ F2, Nxt K F1 φ1 m1 H F2 φ1 m1 H' ∧ VR K F2 φ1 d x
  stop : ∀ (i : Nat) (H : Hp), Evl.Ex F H → ds.length ≤ i → J.stop i H
structure JE (X : Cx) (e : Expr) (f : EF) : Prop where
  run : ∀ {F φ m H ρ σ d m'}, Rep X.K F φ m H → EnvR X.K F φ ρ σ → f ρ m = some (d, m') → ∀ Q : VK, (∀ F' φ' v H', Nxt X.K F φ m H F' φ' m' H' → VR X.K F' φ' d v → Q v H') → WE X e σ H Q
structure JT (X : Cx) (e : Expr) (f : TF) : Prop where
  run : ∀ {F φ m H ρ σ b m'}, Rep X.K F φ m H → EnvR X.K F φ ρ σ → f ρ m = some (b, m') → ∀ Q : Bool → Hp → Prop, (∀ F' φ' H', Nxt X.K F φ m H F' φ' m' H' → Q b H') → WT X e σ H Q
structure JW (X : Cx) (e : Expr) (f : TF) : Prop where
  run : ∀ {F φ m H ρ σ b m'}, Rep X.K F φ m H → EnvR X.K F φ ρ σ → f ρ m = some (b, m') → ∀ Q : Bool → Hp → Prop, (∀ F' φ' H', Nxt X.K F φ m H F' φ' m' H' → Q b H') → WW X e σ H Q
structure JA (X : Cx) (es : List Expr) (f : AF) : Prop where
  run : ∀ {F φ m H ρ σ ds m'}, Rep X.K F φ m H → EnvR X.K F φ ρ σ → f ρ m = some (ds, m') → ∀ Q : List V → Hp → Prop, (∀ F' φ' vs H', Nxt X.K F φ m H F' φ' m' H' → VRs X.K F' φ' ds vs → Q vs H') → WA X es σ H Q
def FlOk (K : PySem.W.Frag) (F : Hp) (φ : List Addr) (m : Mem) (H : Hp) (m' : Mem) (D : Ends) : Fl → Prop
  | .nx ρ' => ∀ F' φ' σ' H', Nxt K F φ m H F' φ' m' H' → EnvR K F' φ' ρ' σ' → D.nx σ' H'
  | .bk ρ' => ∀ F' φ' σ' H', Nxt K F φ m H F' φ' m' H' → EnvR K F' φ' ρ' σ' → D.bk σ' H'
  | .ct ρ' => ∀ F' φ' σ' H', Nxt K F φ m H F' φ' m' H' → EnvR K F' φ' ρ' σ' → D.ct σ' H'
  | .rt d => ∀ F' φ' v H', Nxt K F φ m H F' φ' m' H' → VR K F' φ' d v → D.rt v H'
structure JS (X : Cx) (st : Stmt) (f : BF) : Prop where
  run : ∀ {F φ m H ρ σ r m'}, Rep X.K F φ m H → EnvR X.K F φ ρ σ → f ρ m = some (r, m') → ∀ D : Ends, FlOk X.K F φ m H m' D r → WS X st D σ H
structure JB (X : Cx) (sts : List Stmt) (f : BF) : Prop where
  run : ∀ {F φ m H ρ σ r m'}, Rep X.K F φ m H → EnvR X.K F φ ρ σ → f ρ m = some (r, m') → ∀ D : Ends, FlOk X.K F φ m H m' D r → WB X sts D σ H
/-- σ' is σ but for the slots ws -/
structure But (ws : List Nat) (σ σ' : L2.St) : Prop where
  len : σ'.length = σ.length
  at_ : ∀ i : Nat, i ∉ ws → σ'[i]? = σ[i]?
theorem But.refl (ws : List Nat) (σ : L2.St) : But ws σ σ := ⟨rfl, fun _ _ => rfl⟩
theorem But.trans {ws us : List Nat} {σ σ1 σ2 : L2.St} (a : But ws σ σ1) (b : But us σ1 σ2) : But (ws ++ us) σ σ2 := ⟨b.len.trans a.len, fun i h => (b.at_ i fun z => h (List.mem_append_right _ z)).trans (a.at_ i fun z => h (List.mem_append_left _ z))⟩
structure JG (X : Cx) (tg : Expr) (g : GF) (ws : List Nat) : Prop where
  run : ∀ {F φ m H ρ σ d v ρ' m'}, Rep X.K F φ m H → EnvR X.K F φ ρ σ → VR X.K F φ d v → g d ρ m = some (ρ', m') → ∀ Q : L2.St → Hp → Prop, (∀ F' φ' σ' H', Nxt X.K F φ m H F' φ' m' H' → EnvR X.K F' φ' ρ' σ' → But ws σ σ' → Q σ' H') → WG X tg v σ H Q
structure JGs (X : Cx) (ts : List Expr) (g : GFs) (ws : List Nat) : Prop where
  run : ∀ {F φ m H ρ σ ds vs ρ' m'}, Rep X.K F φ m H → EnvR X.K F φ ρ σ → VRs X.K F φ ds vs → g ds ρ m = some (ρ', m') → ∀ Q : L2.St → Hp → Prop, (∀ F' φ' σ' H', Nxt X.K F φ m H F' φ' m' H' → EnvR X.K F' φ' ρ' σ' → But ws σ σ' → Q σ' H') → WGs X ts vs σ H Q
structure JI (X : Cx) (tg iter : Expr) (f : AF) : Prop where
  run : ∀ {F φ m H ρ σ ds m'}, Rep X.K F φ m H → EnvR X.K F φ ρ σ → f ρ m = some (ds, m') → ∀ R : It → Hp → Prop, (∀ F' φ' J H', Nxt X.K F φ m H F' φ' m' H' → ItD X.K F' φ' J ds → R J H') → WI X tg iter σ H R
/-- operators by values: the memory is read, not changed -/
def OD (X : Cx) (op : Value → Value → Sem Value) (r : Mem → D → D → Option D) : Prop :=
  ∀ {F φ m H x y d vx vy}, Rep X.K F φ m H → VR X.K F φ x vx → VR X.K F φ y vy → r m x y = some d → ∀ Q : VK, (∀ F' φ' v H', Nxt X.K F φ m H F' φ' m H' → VR X.K F' φ' d v → Q v H') → ∃ rr, OpR X op rr ∧ rr vx vy H Q
def UD (X : Cx) (op : Value → Sem Value) (r : Mem → D → Option D) : Prop :=
  ∀ {F φ m H x d vx}, Rep X.K F φ m H → VR X.K F φ x vx → r m x = some d → ∀ Q : VK, (∀ F' φ' v H', Nxt X.K F φ m H F' φ' m H' → VR X.K F' φ' d v → Q v H') → ∃ rr, UnR X op rr ∧ rr vx H Q
/-- built-in calls, methods: the memory may be changed -/
def CD (X : Cx) (f : Value) (r : List D → Mem → Option (D × Mem)) : Prop :=
  ∀ {F φ m H ds d m' vs}, Rep X.K F φ m H → VRs X.K F φ ds vs → r ds m = some (d, m') → ∀ Q : VK, (∀ F' φ' v H', Nxt X.K F φ m H F' φ' m' H' → VR X.K F' φ' d v → Q v H') → ∃ rr, CallR X f rr ∧ rr vs H Q
def MD (X : Cx) (T id : String) (r : D → List D → Mem → Option (D × Mem)) : Prop :=
  ∀ {F φ m H x ds d m' vx vs}, Rep X.K F φ m H → VR X.K F φ x vx → VRs X.K F φ ds vs → r x ds m = some (d, m') → ∀ Q : VK, (∀ F' φ' v H', Nxt X.K F φ m H F' φ' m' H' → VR X.K F' φ' d v → Q v H') → ∃ rr, MtR X id rr ∧ rr vx vs H Q

/-! ### the combinators -/
def eVar (i : Nat) : EF := fun ρ m => match ρ[i]? with | some (some d) => some (d, m) | _ => none
def eC (d : D) : EF := fun _ m => some (d, m)
def eOp (r : Mem → D → D → Option D) (a b : EF) : EF := fun ρ m => match a ρ m with
  | some (x, m1) => match b ρ m1 with
    | some (y, m2) => match r m2 x y with
      | some d => some (d, m2)
      | none => none
    | none => none
  | none => none
def eUn (r : Mem → D → Option D) (a : EF) : EF := fun ρ m => match a ρ m with
  | some (x, m1) => match r m1 x with
    | some d => some (d, m1)
    | none => none
  | none => none
def eNot (a : EF) : EF := fun ρ m => match a ρ m with
  | some (.bl b, m1) => some (.bl (!b), m1)
  | _ => none
def eAnd (a b : EF) : EF := fun ρ m => match a ρ m with
  | some (.bl true, m1) => b ρ m1
  | some (.bl false, m1) => some (.bl false, m1)
  | _ => none
def eOr (a b : EF) : EF := fun ρ m => match a ρ m with
  | some (.bl false, m1) => b ρ m1
  | some (.bl true, m1) => some (.bl true, m1)
  | _ => none
def eIf (c : TF) (a b : EF) : EF := fun ρ m => match c ρ m with
  | some (true, m1) => a ρ m1
  | some (false, m1) => b ρ m1
  | none => none
def eChain (r r' : Mem → D → D → Option D) (a b c : EF) : EF := fun ρ m => match a ρ m with
  | some (x, m1) => match b ρ m1 with
    | some (y, m2) => match r m2 x y with
      | some (.bl true) => match c ρ m2 with
        | some (z, m3) => match r' m3 y z with
          | some d => some (d, m3)
          | none => none
        | none => none
      | some (.bl false) => some (.bl false, m2)
      | _ => none
    | none => none
  | none => none
def aNil : AF := fun _ m => some ([], m)
def aCons (a : EF) (r : AF) : AF := fun ρ m => match a ρ m with
  | some (x, m1) => match r ρ m1 with
    | some (xs, m2) => some (x :: xs, m2)
    | none => none
  | none => none
def eTup (a : AF) : EF := fun ρ m => match a ρ m with
  | some (xs, m1) => some (.tup xs, m1)
  | none => none
def eLst (a : AF) : EF := fun ρ m => match a ρ m with
  | some (xs, m1) => some (.lst xs, m1)
  | none => none
def eCel (a : AF) : EF := fun ρ m => match a ρ m with
  | some (xs, m1) => some (.cell m1.length, m1 ++ [.lst xs])
  | none => none
def eFrz (a : EF) : EF := fun ρ m => match a ρ m with
  | some (.cell i, m1) => match m1[i]? with
    | some (.lst ds) => some (.lst ds, m1.set i .dead)
    | _ => none
  | _ => none
/-- a value list becomes a cell? no: only a new one may. a call -/
def eCall (g : FD) (a : AF) : EF := fun ρ m => match a ρ m with
  | some (xs, m1) => g xs m1
  | none => none
def eMth (r : D → List D → Mem → Option (D × Mem)) (o : EF) (a : AF) : EF := fun ρ m => match o ρ m with
  | some (x, m1) => match a ρ m1 with
    | some (xs, m2) => r x xs m2
    | none => none
  | none => none
def tV (a : EF) : TF := fun ρ m => match a ρ m with
  | some (.bl b, m1) => some (b, m1)
  | _ => none
def tNot (a : TF) : TF := fun ρ m => match a ρ m with
  | some (b, m1) => some (!b, m1)
  | none => none
def tAnd (a b : TF) : TF := fun ρ m => match a ρ m with
  | some (true, m1) => b ρ m1
  | some (false, m1) => some (false, m1)
  | none => none
def tOr (a b : TF) : TF := fun ρ m => match a ρ m with
  | some (false, m1) => b ρ m1
  | some (true, m1) => some (true, m1)
  | none => none
def bNil : BF := fun ρ m => some (.nx ρ, m)
def bSeq (a b : BF) : BF := fun ρ m => match a ρ m with
  | some (.nx ρ1, m1) => b ρ1 m1
  | some (r, m1) => some (r, m1)
  | none => none
def bDrop (e : EF) : BF := fun ρ m => match e ρ m with
  | some (_, m1) => some (.nx ρ, m1)
  | none => none
def bRet (e : EF) : BF := fun ρ m => match e ρ m with
  | some (d, m1) => some (.rt d, m1)
  | none => none
def bIf (c : TF) (a b : BF) : BF := fun ρ m => match c ρ m with
  | some (true, m1) => a ρ m1
  | some (false, m1) => b ρ m1
  | none => none
def bSet (g : GF) (e : EF) : BF := fun ρ m => match e ρ m with
  | some (d, m1) => match g d ρ m1 with
    | some (ρ1, m2) => some (.nx ρ1, m2)
    | none => none
  | none => none
def gName (i : Nat) : GF := fun d ρ m => some (ρ.set i (some d), m)
def gNil : GFs := fun ds ρ m => match ds with | [] => some (ρ, m) | _ => none
def gCons (g : GF) (r : GFs) : GFs := fun ds ρ m => match ds with
  | d :: ds => match g d ρ m with
    | some (ρ1, m1) => r ds ρ1 m1
    | none => none
  | [] => none
def gTup (n : Nat) (g : GFs) : GF := fun d ρ m => match d with
  | .tup ds => if ds.length = n then g ds ρ m else none
  | _ => none
def gLst (n : Nat) (g : GFs) : GF := fun d ρ m => match d with
  | .lst ds => if ds.length = n then g ds ρ m else none
  | .cell i => match m[i]? with
    | some (.lst ds) => if ds.length = n then g ds ρ m else none
    | _ => none
  | _ => none
def bAug (i : Nat) (r : Mem → D → D → Option D) (e : EF) : BF := fun ρ m => match ρ[i]? with
  | some (some x) => match e ρ m with
    | some (y, m1) => match r m1 x y with
      | some d => some (.nx (ρ.set i (some d)), m1)
      | none => none
    | none => none
  | _ => none
def forV (g : GF) (b : BF) : List D → BF
  | [], ρ, m => some (.nx ρ, m)
  | d :: ds, ρ, m => match g d ρ m with
    | some (ρ1, m1) => match b ρ1 m1 with
      | some (.nx ρ2, m2) => forV g b ds ρ2 m2
      | some (.ct ρ2, m2) => forV g b ds ρ2 m2
      | some (.bk ρ2, m2) => some (.nx ρ2, m2)
      | some (.rt d, m2) => some (.rt d, m2)
      | none => none
    | none => none
def bFor (it : AF) (g : GF) (b : BF) : BF := fun ρ m => match it ρ m with
  | some (ds, m1) => forV g b ds ρ m1
  | none => none
def whileV (c : TF) (b : BF) : Nat → BF
  | 0, _, _ => none
  | n + 1, ρ, m => match c ρ m with
    | some (true, m1) => match b ρ m1 with
      | some (.nx ρ2, m2) => whileV c b n ρ2 m2
      | some (.ct ρ2, m2) => whileV c b n ρ2 m2
      | some (.bk ρ2, m2) => some (.nx ρ2, m2)
      | some (.rt d, m2) => some (.rt d, m2)
      | none => none
    | some (false, m1) => some (.nx ρ, m1)
    | none => none
def tYes : TF := fun _ m => some (true, m)
def compV (own : List Nat) (g : GF) (c : TF) (e : EF) (ρ : Env) : List D → List D → Mem → Option (List D × Mem)
  | [], acc, m => some (acc, m)
  | d :: ds, acc, m => match g d (wipeD ρ own) m with
    | some (ρ1, m1) => match c ρ1 m1 with
      | some (true, m2) => match e ρ1 m2 with
        | some (y, m3) => compV own g c e ρ ds (acc ++ [y]) m3
        | none => none
      | some (false, m2) => compV own g c e ρ ds acc m2
      | none => none
    | none => none
def aComp (own : List Nat) (it : AF) (g : GF) (c : TF) (e : EF) : AF := fun ρ m => match it ρ m with
  | some (ds, m1) => if ds.length ≤ 16777215 then compV own g c e ρ ds [] m1 else none
  | none => none
def eComp (own : List Nat) (it : AF) (g : GF) (c : TF) (e : EF) : EF := eLst (aComp own it g c e)
end VI
end
section
namespace VI
open PySem PySem.Spec PyProof.Rows L2
section
variable {X : Cx} {a b c e : Expr} {es : List Expr} {pos : Pos} {fa fb fc fe : EF}

/-! ### the weakest by-value rules -/
theorem opr_w {op : Value → Value → Sem Value} : OpR X op (fun x y H Q => ∃ rr, OpR X op rr ∧ rr x y H Q) := fun pins s σ H x y v u Q I rx ry ⟨_, h, q⟩ => h pins s σ H x y v u Q I rx ry q
theorem unr_w {op : Value → Sem Value} : UnR X op (fun x H Q => ∃ rr, UnR X op rr ∧ rr x H Q) := fun pins s σ H x v Q I rx ⟨_, h, q⟩ => h pins s σ H x v Q I rx q
theorem callr_w {f : Value} : CallR X f (fun xs H Q => ∃ rr, CallR X f rr ∧ rr xs H Q) := fun pins s σ H xs us Q I r ⟨_, h, q⟩ => h pins s σ H xs us Q I r q
theorem mtr_w {id : String} : MtR X id (fun x xs H Q => ∃ rr, MtR X id rr ∧ rr x xs H Q) := fun pins s σ H x xs v us Q I rx r ⟨_, h, q⟩ => h pins s σ H x xs v us Q I rx r q
theorem ixr_w : IxR X (fun x y H Q => ∃ rr, IxR X rr ∧ rr x y H Q) := fun va sl pins s σ H x y v u Q I rx ry ⟨_, h, q⟩ hs => h va sl pins s σ H x y v u Q I rx ry q hs
theorem slr_w : SlR X (fun x lo hi H Q => ∃ rr, SlR X rr ∧ rr x lo hi H Q) := fun pins s σ H x v vl vu lo hi sl Q I rx h1 h2 h3 ⟨_, h, q⟩ => h pins s σ H x v vl vu lo hi sl Q I rx h1 h2 h3 q
theorem trur_w : TruR X (fun x H Q => ∃ rr, TruR X rr ∧ rr x H Q) := fun pins s σ H x v Q I rx ⟨_, h, q⟩ => h pins s σ H x v Q I rx q

/-! ### names, constants -/
theorem j_var (i : Nat) {x : Str} (hN : X.N[i]? = some x := by rfl) (hv : Vis X.env.scope x := by first | exact Or.inl rfl | exact Or.inr (Or.inl rfl) | exact Or.inr (Or.inr rfl)) (hd : (x == ("__debug__" : Str)) = false := by decide)
    (hcd : (x == ("__classdict__" : Str)) = false := by decide) : JE X (.Name x pos) (eVar i) := ⟨fun {F φ m H ρ σ d m'} rp er hf Q q => by
  unfold eVar at hf
  split at hf
  · rename_i d' h1
    cases hf
    obtain ⟨v, h2, h3⟩ := er.at_ i _ h1
    exact we_of (pv i hN hv hd hcd) ⟨v, h2, q _ _ _ _ (Nxt.refl rp) h3⟩
  · cases hf⟩
theorem j_int {i j} : JE X (.Constant (.int i) j pos) (eC (.int i)) := ⟨fun rp er hf Q q => by
  cases hf
  exact we_of pe_int (q _ _ _ _ (Nxt.refl rp) (.int i))⟩
theorem j_bl {b j} : JE X (.Constant (.bool b) j pos) (eC (.bl b)) := ⟨fun rp er hf Q q => by
  cases hf
  exact we_of pe_bl (q _ _ _ _ (Nxt.refl rp) (.bl b))⟩
theorem j_non {j} : JE X (.Constant .none j pos) (eC .non) := ⟨fun rp er hf Q q => by
  cases hf
  exact we_of pe_non (q _ _ _ _ (Nxt.refl rp) .non)⟩
theorem j_str {x : Str} {j} (l : List Nat) (h : x.cps.toList = l := by decide +kernel) : JE X (.Constant (.str x) j pos) (eC (.str l)) := ⟨fun rp er hf Q q => by
  cases hf
  subst h
  have e : (V.str x) = V.str (S x.cps.toList) := by rw [S_mk]
  refine we_of pe_str (q _ _ _ _ (Nxt.refl rp) ?_)
  rw [e]
  exact .str _⟩
/-- a module's constant -/
def GlobD (K : PySem.W.Frag) (mg : Str → Option Value) (x : Str) (d : D) : Prop := ∃ u v, mg x = some u ∧ RelV v u ∧ ∀ F φ, VR K F φ d v
theorem j_glob {x : Str} {d : D} (g : GlobD X.K X.mg x d) (hg : Gl X x := by rfl) (hd : (x == ("__debug__" : Str)) = false := by decide) : JE X (.Name x pos) (eC d) := ⟨fun rp er hf Q q => by
  cases hf
  obtain ⟨u, v, h1, h2, h3⟩ := g
  exact we_of (pe_glob hg h1 h2 hd) (q _ _ _ _ (Nxt.refl rp) (h3 _ _))⟩

/-! ### operators -/
theorem two {F φ m H ρ σ d m'} {r : Mem → D → D → Option D} (ha : JE X a fa) (hb : JE X b fb) (rp : Rep X.K F φ m H) (er : EnvR X.K F φ ρ σ) (hf : eOp r fa fb ρ m = some (d, m')) {Q : VK} {W : V → V → Hp → Prop}
    (h : ∀ F2 φ2 H2 x y vx vy, Nxt X.K F φ m H F2 φ2 m' H2 → VR X.K F2 φ2 x vx → VR X.K F2 φ2 y vy → r m' x y = some d → W vx vy H2) : WE X a σ H fun x H1 => WE X b σ H1 fun y H2 => W x y H2 := by
  unfold eOp at hf
  split at hf
  · rename_i x m1 h1
    split at hf
    · rename_i y m2 h2
      split at hf
      · rename_i d' h3
        cases hf
        refine ha.run rp er h1 _ fun F1 φ1 vx H1 n1 r1 => ?_
        refine hb.run n1.rep (er.mono n1.exF n1.pre) h2 _ fun F2 φ2 vy H2 n2 r2 => ?_
        exact h F2 φ2 H2 x y vx vy (n1.trans n2) (r1.mono n2.exF n2.pre) r2 h3
      · cases hf
    · cases hf
  · cases hf
theorem j_op {op : Operator} {r : Mem → D → D → Option D} (ho : OD X (binaryOp op) r) (ha : JE X a fa) (hb : JE X b fb) : JE X (.BinOp a op b pos) (eOp r fa fb) := ⟨fun rp er hf Q q => by
  refine we_of (pe_op opr_w pe_w pe_w) ?_
  exact two (Q := Q) ha hb rp er hf fun F2 φ2 H2 x y vx vy n rx ry h => ho n.rep rx ry h Q fun F' φ' v H' n' r' => q _ _ _ _ (n.trans n') r'⟩
theorem j_cmp {op : CmpOp} {r : Mem → D → D → Option D} (ho : OD X (compareOp op) r) (ha : JE X a fa) (hb : JE X b fb) (hm : behindInMarks op b = false := by first | rfl | exact nomark _) : JE X (.Compare a [op] [b] pos) (eOp r fa fb) := ⟨fun rp er hf Q q => by
  refine we_of (pe_cmpR opr_w pe_w pe_w hm) ?_
  exact two (Q := Q) ha hb rp er hf fun F2 φ2 H2 x y vx vy n rx ry h => ho n.rep rx ry h Q fun F' φ' v H' n' r' => q _ _ _ _ (n.trans n') r'⟩
theorem jt_cmp {op : CmpOp} {r : Mem → D → D → Option D} (ho : OD X (compareOp op) r) (ha : JE X a fa) (hb : JE X b fb) (hm : behindInMarks op b = false := by first | rfl | exact nomark _) : JT X (.Compare a [op] [b] pos) (tV (eOp r fa fb)) := ⟨fun {F φ m H ρ σ bb m'} rp er hf Q q => by
  refine wt_of (pt_cmpR opr_w pe_w pe_w hm) ?_
  unfold tV at hf
  split at hf
  · rename_i b' m1 h1
    cases hf
    refine two (Q := fun _ _ => True) ha hb rp er h1 fun F2 φ2 H2 x y vx vy n rx ry h => ?_
    refine ho n.rep rx ry h _ fun F' φ' v H' n' r' => ?_
    cases r'
    exact ⟨_, rfl, q _ _ _ (n.trans n')⟩
  · cases hf⟩
theorem j_chain {op op' : CmpOp} {r r' : Mem → D → D → Option D} (ho : OD X (compareOp op) r) (ho' : OD X (compareOp op') r') (ha : JE X a fa) (hb : JE X b fb) (hc : JE X c fc) (hm : lastMarks [op, op'] [b, c] = false := by with_unfolding_all rfl) :
    JE X (.Compare a [op, op'] [b, c] pos) (eChain r r' fa fb fc) := ⟨fun {F φ m H ρ σ d m'} rp er hf Q q => by
  refine we_of (pe_chain opr_w opr_w pe_w pe_w pe_w hm) ?_
  unfold eChain at hf
  split at hf
  · rename_i x m1 h1
    split at hf
    · rename_i y m2 h2
      refine ha.run rp er h1 _ fun F1 φ1 vx H1 n1 r1 => ?_
      refine hb.run n1.rep (er.mono n1.exF n1.pre) h2 _ fun F2 φ2 vy H2 n2 r2 => ?_
      split at hf
      · rename_i h3
        split at hf
        · rename_i z m3 h4
          split at hf
          · rename_i d' h5
            cases hf
            refine ho n2.rep (r1.mono n2.exF n2.pre) r2 h3 _ fun F3 φ3 v3 H3 n3 r3 => ?_
            cases r3
            refine ⟨true, rfl, ?_⟩
            rw [if_pos rfl]
            refine hc.run n3.rep (((er.mono n1.exF n1.pre).mono n2.exF n2.pre).mono n3.exF n3.pre) h4 _ fun F4 φ4 vz H4 n4 r4 => ?_
            exact ho' n4.rep ((r2.mono n3.exF n3.pre).mono n4.exF n4.pre) r4 h5 Q fun F' φ' v H' n' r' => q _ _ _ _ ((((n1.trans n2).trans n3).trans n4).trans n') r'
          · cases hf
        · cases hf
      · rename_i h3
        cases hf
        refine ho n2.rep (r1.mono n2.exF n2.pre) r2 h3 _ fun F3 φ3 v3 H3 n3 r3 => ?_
        cases r3
        refine ⟨false, rfl, ?_⟩
        rw [if_neg Bool.false_ne_true]
        exact q _ _ _ _ ((n1.trans n2).trans n3) (.bl false)
      · cases hf
    · cases hf
  · cases hf⟩
theorem j_un {op : UnaryOp} {r : Mem → D → Option D} (ho : UD X (unaryOp op) r) (ha : JE X a fa) : JE X (.UnaryOp op a pos) (eUn r fa) := ⟨fun {F φ m H ρ σ d m'} rp er hf Q q => by
  refine we_of (pe_un unr_w pe_w) ?_
  unfold eUn at hf
  split at hf
  · rename_i x m1 h1
    split at hf
    · rename_i d' h2
      cases hf
      refine ha.run rp er h1 _ fun F1 φ1 vx H1 n1 r1 => ?_
      exact ho n1.rep r1 h2 Q fun F' φ' v H' n' r' => q _ _ _ _ (n1.trans n') r'
    · cases hf
  · cases hf⟩
theorem j_not (ha : JE X a fa) : JE X (.UnaryOp .Not a pos) (eNot fa) := ⟨fun {F φ m H ρ σ d m'} rp er hf Q q => by
  refine we_of (pe_not pe_w) ?_
  unfold eNot at hf
  split at hf
  · rename_i bb m1 h1
    cases hf
    refine ha.run rp er h1 _ fun F1 φ1 vx H1 n1 r1 => ?_
    cases r1
    exact ⟨bb, rfl, q _ _ _ _ n1 (.bl _)⟩
  · cases hf⟩
variable {rest : List Expr}
theorem j_one {op} (h : JE X a fa) : JE X (.BoolOp op [a] pos) fa := ⟨fun rp er hf Q q => we_of (pe_one pe_w) (h.run rp er hf Q q)⟩
theorem j_and (ha : JE X a fa) (hb : JE X (.BoolOp .And (b :: rest) pos) fb) : JE X (.BoolOp .And (a :: b :: rest) pos) (eAnd fa fb) := ⟨fun {F φ m H ρ σ d m'} rp er hf Q q => by
  refine we_of (pe_and pe_w pe_w) ?_
  unfold eAnd at hf
  split at hf
  · rename_i m1 h1
    refine ha.run rp er h1 _ fun F1 φ1 vx H1 n1 r1 => ?_
    cases r1
    refine ⟨true, rfl, ?_⟩
    rw [if_pos rfl]
    exact hb.run n1.rep (er.mono n1.exF n1.pre) hf Q fun F' φ' v H' n' r' => q _ _ _ _ (n1.trans n') r'
  · rename_i m1 h1
    cases hf
    refine ha.run rp er h1 _ fun F1 φ1 vx H1 n1 r1 => ?_
    cases r1
    refine ⟨false, rfl, ?_⟩
    rw [if_neg Bool.false_ne_true]
    exact q _ _ _ _ n1 (.bl false)
  · cases hf⟩
theorem j_or (ha : JE X a fa) (hb : JE X (.BoolOp .Or (b :: rest) pos) fb) : JE X (.BoolOp .Or (a :: b :: rest) pos) (eOr fa fb) := ⟨fun {F φ m H ρ σ d m'} rp er hf Q q => by
  refine we_of (pe_or pe_w pe_w) ?_
  unfold eOr at hf
  split at hf
  · rename_i m1 h1
    refine ha.run rp er h1 _ fun F1 φ1 vx H1 n1 r1 => ?_
    cases r1
    refine ⟨false, rfl, ?_⟩
    rw [if_neg Bool.false_ne_true]
    exact hb.run n1.rep (er.mono n1.exF n1.pre) hf Q fun F' φ' v H' n' r' => q _ _ _ _ (n1.trans n') r'
  · rename_i m1 h1
    cases hf
    refine ha.run rp er h1 _ fun F1 φ1 vx H1 n1 r1 => ?_
    cases r1
    refine ⟨true, rfl, ?_⟩
    rw [if_pos rfl]
    exact q _ _ _ _ n1 (.bl true)
  · cases hf⟩

/-! ### tests -/
theorem jt_val (h : JE X a fa) (he : ∀ whole, isTrue a X.env whole = (do let v ← whole; standAt a.pos; holding [v] (truthy v)) := by intro _; rfl) : JT X a (tV fa) := ⟨fun {F φ m H ρ σ bb m'} rp er hf Q q => by
  refine wt_of (pt_val pe_w he) ?_
  unfold tV at hf
  split at hf
  · rename_i b' m1 h1
    cases hf
    refine h.run rp er h1 _ fun F1 φ1 vx H1 n1 r1 => ?_
    cases r1
    exact ⟨_, rfl, q _ _ _ n1⟩
  · cases hf⟩
variable {ta tb tc : TF}
theorem jt_not (h : JT X a ta) : JT X (.UnaryOp .Not a pos) (tNot ta) := ⟨fun {F φ m H ρ σ bb m'} rp er hf Q q => by
  refine wt_of (pt_not pt_w) ?_
  unfold tNot at hf
  split at hf
  · rename_i b' m1 h1
    cases hf
    exact h.run rp er h1 _ fun F1 φ1 H1 n1 => q _ _ _ n1
  · cases hf⟩
theorem jt_w (h : JW X a ta) : JT X a ta := ⟨fun {F φ m H ρ σ bb m'} rp er hf Q q => wt_of pw_w.pt (h.run rp er hf Q q)⟩
theorem jw_and1 (h : JT X a ta) : JW X (.BoolOp .And [a] pos) ta := ⟨fun rp er hf Q q => ww_of (pw_and1 pt_w) (h.run rp er hf Q q)⟩
theorem jw_or1 (h : JT X a ta) : JW X (.BoolOp .Or [a] pos) ta := ⟨fun rp er hf Q q => ww_of (pw_or1 pt_w) (h.run rp er hf Q q)⟩
theorem jw_and (ha : JT X a ta) (hb : JW X (.BoolOp .And (b :: rest) pos) tb) : JW X (.BoolOp .And (a :: b :: rest) pos) (tAnd ta tb) := ⟨fun {F φ m H ρ σ bb m'} rp er hf Q q => by
  refine ww_of (pw_and pt_w pw_w) ?_
  unfold tAnd at hf
  split at hf
  · rename_i m1 h1
    refine ha.run rp er h1 _ fun F1 φ1 H1 n1 => ?_
    rw [if_pos rfl]
    exact hb.run n1.rep (er.mono n1.exF n1.pre) hf Q fun F' φ' H' n' => q _ _ _ (n1.trans n')
  · rename_i m1 h1
    cases hf
    refine ha.run rp er h1 _ fun F1 φ1 H1 n1 => ?_
    rw [if_neg Bool.false_ne_true]
    exact q _ _ _ n1
  · cases hf⟩
theorem jw_or (ha : JT X a ta) (hb : JW X (.BoolOp .Or (b :: rest) pos) tb) : JW X (.BoolOp .Or (a :: b :: rest) pos) (tOr ta tb) := ⟨fun {F φ m H ρ σ bb m'} rp er hf Q q => by
  refine ww_of (pw_or pt_w pw_w) ?_
  unfold tOr at hf
  split at hf
  · rename_i m1 h1
    refine ha.run rp er h1 _ fun F1 φ1 H1 n1 => ?_
    rw [if_neg Bool.false_ne_true]
    exact hb.run n1.rep (er.mono n1.exF n1.pre) hf Q fun F' φ' H' n' => q _ _ _ (n1.trans n')
  · rename_i m1 h1
    cases hf
    refine ha.run rp er h1 _ fun F1 φ1 H1 n1 => ?_
    rw [if_pos rfl]
    exact q _ _ _ n1
  · cases hf⟩
theorem j_if {cc : Expr} (hc : JT X cc tc) (ha : JE X a fa) (hb : JE X b fb) : JE X (.IfExp cc a b pos) (eIf tc fa fb) := ⟨fun {F φ m H ρ σ d m'} rp er hf Q q => by
  refine we_of (pe_ifExp pt_w pe_w pe_w) ?_
  unfold eIf at hf
  split at hf
  · rename_i m1 h1
    refine hc.run rp er h1 _ fun F1 φ1 H1 n1 => ?_
    rw [if_pos rfl]
    exact ha.run n1.rep (er.mono n1.exF n1.pre) hf Q fun F' φ' v H' n' r' => q _ _ _ _ (n1.trans n') r'
  · rename_i m1 h1
    refine hc.run rp er h1 _ fun F1 φ1 H1 n1 => ?_
    rw [if_neg Bool.false_ne_true]
    exact hb.run n1.rep (er.mono n1.exF n1.pre) hf Q fun F' φ' v H' n' r' => q _ _ _ _ (n1.trans n') r'
  · cases hf⟩

/-! ### argument lists, displays -/
theorem ja_nil : JA X [] aNil := ⟨fun rp er hf Q q => by
  cases hf
  exact wa_of pa_nil (q _ _ _ _ (Nxt.refl rp) .nil)⟩
variable {fr : AF}
theorem ja_cons (ha : JE X e fe) (hr : JA X es fr) (hs : starEach (e :: es) X.env = (false, eval e X.env) :: starEach es X.env := by rfl) : JA X (e :: es) (aCons fe fr) := ⟨fun {F φ m H ρ σ ds m'} rp er hf Q q => by
  refine wa_of (pa_cons pe_w pa_w hs) ?_
  unfold aCons at hf
  split at hf
  · rename_i x m1 h1
    split at hf
    · rename_i xs m2 h2
      cases hf
      refine ha.run rp er h1 _ fun F1 φ1 vx H1 n1 r1 => ?_
      refine hr.run n1.rep (er.mono n1.exF n1.pre) h2 _ fun F2 φ2 vs H2 n2 r2 => ?_
      exact q _ _ _ _ (n1.trans n2) (.cons (r1.mono n2.exF n2.pre) r2)
    · cases hf
  · cases hf⟩
theorem len_of {F φ ds vs} (h : VRs X.K F φ ds vs) (l : ds.length ≤ 16777216) : vs.length ≤ sizeLine := by rw [← h.len]; exact l
/-- a display's length is written -/
def Few (fr : AF) : Prop := ∀ ρ m ds m', fr ρ m = some (ds, m') → ds.length ≤ 16777216
def FewN (n : Nat) (fr : AF) : Prop := ∀ ρ m ds m', fr ρ m = some (ds, m') → ds.length = n
theorem few_nil : FewN 0 aNil := fun ρ m ds m' h => by cases h; rfl
theorem few_cons {n : Nat} (h : FewN n fr) : FewN (n + 1) (aCons fe fr) := fun ρ m ds m' hf => by
  unfold aCons at hf
  split at hf
  · split at hf
    · rename_i h2
      cases hf
      rw [List.length_cons, h _ _ _ _ h2]
    · cases hf
  · cases hf
theorem few_of {n : Nat} (h : FewN n fr) (hn : n ≤ 16777216 := by decide) : Few fr := fun ρ m ds m' hf => by rw [h _ _ _ _ hf]; exact hn
theorem j_tup {x1} (h : JA X es fr) (hl : Few fr) : JE X (.Tuple es x1 pos) (eTup fr) := ⟨fun {F φ m H ρ σ d m'} rp er hf Q q => by
  refine we_of (pe_tup pa_w) ?_
  unfold eTup at hf
  split at hf
  · rename_i xs m1 h1
    cases hf
    refine h.run rp er h1 _ fun F1 φ1 vs H1 n1 r1 => ⟨len_of r1 (hl _ _ _ _ h1), fun p hp => ?_⟩
    have n2 := n1.rep.frozen (o := .tup vs) hp
    exact q _ _ _ _ (n1.trans n2) (.tup (SqT.of upd_same) (r1.mono n2.exF n2.pre))
  · cases hf⟩
theorem j_lst (h : JA X es fr) (hl : Few fr) : JE X (.List es pos) (eLst fr) := ⟨fun {F φ m H ρ σ d m'} rp er hf Q q => by
  refine we_of (pe_lst pa_w) ?_
  unfold eLst at hf
  split at hf
  · rename_i xs m1 h1
    cases hf
    refine h.run rp er h1 _ fun F1 φ1 vs H1 n1 r1 => ⟨len_of r1 (hl _ _ _ _ h1), fun p hp => ?_⟩
    have n2 := n1.rep.frozen (o := .lst vs) hp
    exact q _ _ _ _ (n1.trans n2) (.lst upd_same (r1.mono n2.exF n2.pre))
  · cases hf⟩
theorem j_cel (h : JA X es fr) (hl : Few fr) : JE X (.List es pos) (eCel fr) := ⟨fun {F φ m H ρ σ d m'} rp er hf Q q => by
  refine we_of (pe_lst pa_w) ?_
  unfold eCel at hf
  split at hf
  · rename_i xs m1 h1
    cases hf
    refine h.run rp er h1 _ fun F1 φ1 vs H1 n1 r1 => ⟨len_of r1 (hl _ _ _ _ h1), fun p hp => ?_⟩
    have n2 := n1.rep.alloc (x := O.lst xs) (o := .lst vs) hp (fun e => nomatch e) ⟨vs, rfl, r1⟩
    refine q _ _ _ _ (n1.trans n2) (.cell ?_)
    rw [← n1.rep.len, List.getElem?_append_right (Nat.le_refl _)]
    simp
  · cases hf⟩
theorem j_frz (h : JE X e fe) : JE X e (eFrz fe) := ⟨fun {F φ m H ρ σ d m'} rp er hf Q q => by
  unfold eFrz at hf
  split at hf
  · rename_i i m1 h1
    split at hf
    · rename_i ds h2
      cases hf
      refine h.run rp er h1 _ fun F1 φ1 v H1 n1 r1 => ?_
      cases r1 with
      | cell hp =>
        obtain ⟨vs, h3, h4, n2⟩ := n1.rep.freeze h2 hp
        exact q _ _ _ _ (n1.trans n2) (.lst upd_same (h4.mono n2.exF n2.pre))
    · cases hf
  · cases hf⟩
end
end VI
end
section
namespace VI
open PySem PySem.Spec PyProof.Rows L2
section
variable {X : Cx} {a b c e tg iter : Expr} {es : List Expr} {st : Stmt} {sts : List Stmt} {pos : Pos} {fa fb fc fe : EF} {g : GF} {gs : GFs} {ws us : List Nat} {f1 f2 : BF} {tc : TF} {fi fr : AF}

/-! ### targets -/
theorem but_set {σ : L2.St} {i : Nat} {v : V} : But [i] σ (σ.set i (some v)) := ⟨by simp, fun j h => by
  rw [List.getElem?_set_ne]
  intro e
  subst e
  exact h (by simp)⟩
theorem jg_name (i : Nat) {x : Str} (hN : X.N.Nodup) (hi : X.N[i]? = some x := by rfl) (hx : Loc X.env.scope x := by first | exact Or.inl rfl | exact Or.inr rfl) (hf : X.fn x = true ∨ X.env.scope.names.lookup x = some .local := by first | exact .inl rfl | exact .inr rfl) :
    JG X (.Name x pos) (gName i) [i] := ⟨fun rp er rv hg Q q => by
  cases hg
  exact wg_of (pg_name hN hi hx hf) (q _ _ _ _ (Nxt.refl rp) (er.set i rv) but_set)⟩
theorem jgs_nil : JGs X [] gNil [] := ⟨fun rp er rv hg Q q => by
  unfold gNil at hg
  split at hg
  · cases hg
    cases rv
    exact wgs_of pgs_nil ⟨rfl, q _ _ _ _ (Nxt.refl rp) er (But.refl _ _)⟩
  · cases hg⟩
theorem jgs_cons (h1 : JG X e g ws) (h2 : JGs X es gs us) (hs : (assignEach (e :: es) X.env).map (·.2) = assign e X.env :: (assignEach es X.env).map (·.2) := by rfl) : JGs X (e :: es) (gCons g gs) (ws ++ us) := ⟨fun rp er rv hg Q q => by
  unfold gCons at hg
  split at hg
  · rename_i d ds
    split at hg
    · rename_i ρ1 m1 e1
      cases rv with
      | cons r0 rr =>
        refine wgs_of (pgs_cons pg_w pgs_w hs) ⟨_, _, rfl, ?_⟩
        refine h1.run rp er r0 e1 _ fun F1 φ1 σ1 H1 n1 er1 b1 => ?_
        exact h2.run n1.rep er1 (rr.mono n1.exF n1.pre) hg _ fun F2 φ2 σ2 H2 n2 er2 b2 => q _ _ _ _ (n1.trans n2) er2 (b1.trans b2)
    · cases hg
  · cases hg⟩
theorem jg_tup {k n : Nat} (hc : X.calm = true) (h : JGs X es gs ws) (hn : (assignEach es X.env).length = n := by rfl) (hst : (assignEach es X.env).findIdx? (·.1) = none := by rfl) : JG X (.Tuple es k pos) (gTup n gs) ws := ⟨fun rp er rv hg Q q => by
  unfold gTup at hg
  split at hg
  · split at hg
    · rename_i hl
      cases rv with
      | tup hq rvs =>
        exact wg_of (pg_tup hc pgs_w hn hst) ⟨_, _, rfl, Evl.ex_t rp.ex hq, rvs.len.symm.trans hl, h.run rp er rvs hg Q q⟩
    · cases hg
  · cases hg⟩
theorem jg_lst {k n : Nat} (hc : X.calm = true) (h : JGs X es gs ws) (hn : (assignEach es X.env).length = n := by rfl) (hst : (assignEach es X.env).findIdx? (·.1) = none := by rfl) : JG X (.Tuple es k pos) (gLst n gs) ws := ⟨fun {F φ m H ρ σ d v ρ' m'} rp er rv hg Q q => by
  unfold gLst at hg
  split at hg
  · split at hg
    · rename_i hl
      cases rv with
      | lst hq rvs =>
        exact wg_of (pg_unl hc pgs_w hn hst) ⟨_, _, rfl, SqL.of (rp.ex _ _ hq), rvs.len.symm.trans hl, h.run rp er rvs hg Q q⟩
    · cases hg
  · split at hg
    · rename_i hm
      split at hg
      · rename_i hl
        cases rv with
        | cell hp =>
          obtain ⟨_, o, ho, vs, rfl, rvs⟩ := rp.cell _ _ _ hm (fun e => nomatch e) hp
          exact wg_of (pg_unl hc pgs_w hn hst) ⟨_, _, rfl, SqL.of ho, rvs.len.symm.trans hl, h.run rp er rvs hg Q q⟩
      · cases hg
    · cases hg
  · cases hg⟩

/-! ### blocks, small statements -/
theorem jb_nil : JB X [] bNil := ⟨fun rp er hf D q => by
  cases hf
  exact wb_of pss_nil (q _ _ _ _ (Nxt.refl rp) er)⟩
theorem FlOk.after {K F φ m H F1 φ1 m1 H1 m'} {D : Ends} {r : Fl} (n : Nxt K F φ m H F1 φ1 m1 H1) (q : FlOk K F φ m H m' D r) : FlOk K F1 φ1 m1 H1 m' D r := by
  cases r with
  | nx ρ => exact fun F' φ' σ' H' n' er => q _ _ _ _ (n.trans n') er
  | bk ρ => exact fun F' φ' σ' H' n' er => q _ _ _ _ (n.trans n') er
  | ct ρ => exact fun F' φ' σ' H' n' er => q _ _ _ _ (n.trans n') er
  | rt d => exact fun F' φ' v H' n' er => q _ _ _ _ (n.trans n') er
theorem jb_cons (h1 : JS X st f1) (h2 : JB X sts f2) : JB X (st :: sts) (bSeq f1 f2) := ⟨fun {F φ m H ρ σ r m'} rp er hf D q => by
  refine wb_of (pss_cons ps_w pss_w) ?_
  unfold bSeq at hf
  split at hf
  · rename_i ρ1 m1 e1
    refine h1.run rp er e1 _ fun F1 φ1 σ1 H1 n1 er1 => ?_
    exact h2.run n1.rep er1 hf D (q.after n1)
  · rename_i r1 m1 hne e1
    cases hf
    refine h1.run rp er e1 _ ?_
    cases r with
    | nx ρ => exact (hne _ rfl).elim
    | bk ρ => exact q
    | ct ρ => exact q
    | rt d => exact q
  · cases hf⟩
theorem jb_one (h1 : JS X st f1) : JB X [st] f1 := ⟨fun rp er hf D q => wb_of (pss_one ps_w) (h1.run rp er hf D q)⟩
theorem js_expr (he : JE X e fe) (hs : swapsWith e none pos.line X.env = pure false := by rfl) : JS X (.Expr e pos) (bDrop fe) := ⟨fun rp er hf D q => by
  unfold bDrop at hf
  split at hf
  · rename_i d m1 h1
    cases hf
    refine ws_of (ps_expr pe_w hs) (he.run rp er h1 _ fun F1 φ1 v H1 n1 r1 => ?_)
    exact q _ _ _ _ n1 (er.mono n1.exF n1.pre)
  · cases hf⟩
theorem js_ret (he : JE X e fe) : JS X (.Return (some e) pos) (bRet fe) := ⟨fun rp er hf D q => by
  unfold bRet at hf
  split at hf
  · rename_i d m1 h1
    cases hf
    exact ws_of (ps_ret pe_w) (he.run rp er h1 _ fun F1 φ1 v H1 n1 r1 => q _ _ _ _ n1 r1)
  · cases hf⟩
theorem js_if {c : Expr} {a b : List Stmt} (hc : JT X c tc) (ha : JB X a f1) (hb : JB X b f2) : JS X (.If c a b pos) (bIf tc f1 f2) := ⟨fun {F φ m H ρ σ r m'} rp er hf D q => by
  refine ws_of (ps_if pt_w pss_w pss_w) ?_
  unfold bIf at hf
  split at hf
  · rename_i m1 h1
    refine hc.run rp er h1 _ fun F1 φ1 H1 n1 => ?_
    rw [if_pos rfl]
    exact ha.run n1.rep (er.mono n1.exF n1.pre) hf D (q.after n1)
  · rename_i m1 h1
    refine hc.run rp er h1 _ fun F1 φ1 H1 n1 => ?_
    rw [if_neg Bool.false_ne_true]
    exact hb.run n1.rep (er.mono n1.exF n1.pre) hf D (q.after n1)
  · cases hf⟩
theorem js_set (hg : JG X tg g ws) (he : JE X e fe) (hs : swapsWithSole [tg] e pos.line X.env = pure false := by rfl) (hw : swappedStores [tg] e X.env = pure none := by rfl)
    (h1 : (assignEach [tg] X.env).map (·.2) = [assign tg X.env] := by rfl) : JS X (.Assign [tg] e pos) (bSet g fe) := ⟨fun {F φ m H ρ σ r m'} rp er hf D q => by
  refine ws_of (ps_asg pe_w pg_w hs hw h1) ?_
  unfold bSet at hf
  split at hf
  · rename_i d m1 e1
    split at hf
    · rename_i ρ1 m2 e2
      cases hf
      refine he.run rp er e1 _ fun F1 φ1 v H1 n1 r1 => ?_
      exact hg.run n1.rep (er.mono n1.exF n1.pre) r1 e2 _ fun F2 φ2 σ2 H2 n2 er2 _ => q _ _ _ _ (n1.trans n2) er2
    · cases hf
  · cases hf⟩
theorem js_pass : JS X (.Pass pos) bNil := ⟨fun rp er hf D q => by
  cases hf
  exact ws_of ps_pass (q _ _ _ _ (Nxt.refl rp) er)⟩
def bBk : BF := fun ρ m => some (.bk ρ, m)
def bCt : BF := fun ρ m => some (.ct ρ, m)
theorem js_break : JS X (.Break pos) bBk := ⟨fun rp er hf D q => by
  cases hf
  exact ws_of ps_break (q _ _ _ _ (Nxt.refl rp) er)⟩
theorem js_continue : JS X (.Continue pos) bCt := ⟨fun rp er hf D q => by
  cases hf
  exact ws_of ps_continue (q _ _ _ _ (Nxt.refl rp) er)⟩
theorem js_aug (i : Nat) {x : Str} {pos' : Pos} {op : Operator} {r : Mem → D → D → Option D} (hN : X.N.Nodup) (ho : OD X (inplaceOp op) r) (he : JE X e fe) (hi : X.N[i]? = some x := by rfl) (hx : Loc X.env.scope x := by first | exact Or.inl rfl | exact Or.inr rfl)
    (hf : X.fn x = true ∨ X.env.scope.names.lookup x = some .local := by first | exact .inl rfl | exact .inr rfl) : JS X (.AugAssign (.Name x pos') op e pos) (bAug i r fe) := ⟨fun {F φ m H ρ σ r' m'} rp er hf' D q => by
  have pip : PIp X op (fun x y H Q => ∃ rr, OpR X (inplaceOp op) rr ∧ rr x y H Q) := fun pins s σ H x y v u Q I rx ry ⟨_, h, q⟩ => h pins s σ H x y v u Q I rx ry q
  refine ws_of (ps_aug hN hi hx pe_w pip hf) ?_
  unfold bAug at hf'
  split at hf'
  · rename_i x' h0
    split at hf'
    · rename_i y m1 h1
      split at hf'
      · rename_i d h2
        cases hf'
        obtain ⟨v, hv, rv⟩ := er.at_ i _ h0
        refine ⟨v, hv, he.run rp er h1 _ fun F1 φ1 vy H1 n1 r1 => ?_⟩
        refine ho n1.rep (rv.mono n1.exF n1.pre) r1 h2 _ fun F2 φ2 vz H2 n2 r2 => ?_
        exact q _ _ _ _ (n1.trans n2) (((er.mono n1.exF n1.pre).mono n2.exF n2.pre).set i r2)
      · cases hf'
    · cases hf'
  · cases hf'⟩

/-! ### loops -/
theorem js_for (hp : PassesOwn (model X.prog X.w) X.A X.env X.xe) (hc : X.calm = true) (hi : JI X tg iter fi) (hg : JG X tg g ws) (hb : JB X sts f1) (hs : ∀ x, foldedSetIterable iter X.env x = pure x := by intro _; rfl) :
    JS X (.For tg iter sts [] pos) (bFor fi g f1) := ⟨fun {F φ m H ρ σ r m'} rp er hf D q => by
  refine ws_of (ps_for hp hc pi_w pg_w pss_w hs) ?_
  unfold bFor at hf
  split at hf
  · rename_i ds m1 h1
    refine hi.run rp er h1 _ fun F1 φ1 J H1 n1 it => ?_
    have q1 := q.after n1
    have er1 := er.mono n1.exF n1.pre
    refine ⟨fun i k σ H => ∃ F φ m ρ, k = ds.length - i ∧ i ≤ ds.length ∧ Rep X.K F φ m H ∧ Evl.Ex F1 F ∧ Pre φ1 φ ∧ EnvR X.K F φ ρ σ ∧ forV g f1 (ds.drop i) ρ m = some (r, m') ∧ FlOk X.K F φ m H m' D r,
      ⟨ds.length, F1, φ1, m1, ρ, rfl, Nat.zero_le _, n1.rep, Evl.Ex.refl _, Pre.refl _, er1, by rw [List.drop_zero]; exact hf, q1⟩, ?_⟩
    rintro i k σ2 H2 ⟨F2, φ2, m2, ρ2, rfl, hle, rp2, ex2, pr2, er2, hf2, q2⟩
    by_cases hlt : i < ds.length
    · refine .inr ⟨it.go i H2 (ex2.trans rp2.ex) hlt, fun σ' H' => ∃ F φ m ρ, i + 1 ≤ ds.length ∧ Rep X.K F φ m H' ∧ Evl.Ex F1 F ∧ Pre φ1 φ ∧ EnvR X.K F φ ρ σ' ∧ forV g f1 (ds.drop (i + 1)) ρ m = some (r, m') ∧ FlOk X.K F φ m H' m' D r,
        fun σ' H' ⟨F', φ', m'', ρ', a1, a2, a3, a4, a5, a6, a7⟩ => ⟨ds.length - (i + 1), by omega, F', φ', m'', ρ', rfl, a1, a2, a3, a4, a5, a6, a7⟩, fun x H3 hy => ?_⟩
      obtain ⟨F3, n3, r3⟩ := it.yld i F2 φ2 m2 H2 x H3 ds[i] rp2 ex2 pr2 (List.getElem?_eq_getElem hlt) hy
      rw [List.drop_eq_getElem_cons hlt] at hf2
      unfold forV at hf2
      split at hf2
      · rename_i ρ4 m4 e4
        refine hg.run n3.rep (er2.mono n3.exF n3.pre) r3 e4 _ fun F4 φ4 σ4 H4 n4 er4 _ => ?_
        have n34 := n3.trans n4
        split at hf2
        · rename_i ρ5 m5 e5
          refine hb.run n4.rep er4 e5 _ fun F5 φ5 σ5 H5 n5 er5 => ?_
          have n35 := n34.trans n5
          exact ⟨F5, φ5, m5, ρ5, hlt, n5.rep, ex2.trans n35.exF, pr2.trans n35.pre, er5, hf2, q2.after n35⟩
        · rename_i ρ5 m5 e5
          refine hb.run n4.rep er4 e5 _ fun F5 φ5 σ5 H5 n5 er5 => ?_
          have n35 := n34.trans n5
          exact ⟨F5, φ5, m5, ρ5, hlt, n5.rep, ex2.trans n35.exF, pr2.trans n35.pre, er5, hf2, q2.after n35⟩
        · rename_i ρ5 m5 e5
          cases hf2
          exact hb.run n4.rep er4 e5 _ fun F5 φ5 σ5 H5 n5 er5 => q2 _ _ _ _ (n34.trans n5) er5
        · rename_i d5 m5 e5
          cases hf2
          exact hb.run n4.rep er4 e5 _ fun F5 φ5 v5 H5 n5 r5 => q2 _ _ _ _ (n34.trans n5) r5
        · cases hf2
      · cases hf2
    · have hi' : i = ds.length := by omega
      subst hi'
      rw [List.drop_length] at hf2
      cases hf2
      exact .inl ⟨it.stop _ H2 (ex2.trans rp2.ex) (Nat.le_refl _), q2 _ _ _ _ (Nxt.refl rp2) er2⟩
  · cases hf⟩
theorem js_while {c : Expr} (n : Nat) (hp : PassesOwn (model X.prog X.w) X.A X.env X.xe) (hc : JT X c tc) (hb : JB X sts f1) : JS X (.While c sts [] pos) (whileV tc f1 n) := ⟨fun {F φ m H ρ σ r m'} rp er hf D q => by
  refine ws_of (ps_while hp pt_w pss_w) ?_
  refine ⟨fun k σ H => ∃ F φ m ρ, Rep X.K F φ m H ∧ EnvR X.K F φ ρ σ ∧ whileV tc f1 k ρ m = some (r, m') ∧ FlOk X.K F φ m H m' D r, ⟨n, F, φ, m, ρ, rp, er, hf, q⟩, ?_⟩
  rintro k σ2 H2 ⟨F2, φ2, m2, ρ2, rp2, er2, hf2, q2⟩
  cases k with
  | zero => cases hf2
  | succ k =>
    unfold whileV at hf2
    split at hf2
    · rename_i m3 e3
      refine hc.run rp2 er2 e3 _ fun F3 φ3 H3 n3 => ?_
      rw [if_pos rfl]
      refine ⟨fun σ' H' => ∃ F φ m ρ, Rep X.K F φ m H' ∧ EnvR X.K F φ ρ σ' ∧ whileV tc f1 k ρ m = some (r, m') ∧ FlOk X.K F φ m H' m' D r, fun σ' H' h => ⟨k, Nat.lt_succ_self _, h⟩, ?_⟩
      have er3 := er2.mono n3.exF n3.pre
      split at hf2
      · rename_i ρ5 m5 e5
        refine hb.run n3.rep er3 e5 _ fun F5 φ5 σ5 H5 n5 er5 => ?_
        exact ⟨F5, φ5, m5, ρ5, n5.rep, er5, hf2, q2.after (n3.trans n5)⟩
      · rename_i ρ5 m5 e5
        refine hb.run n3.rep er3 e5 _ fun F5 φ5 σ5 H5 n5 er5 => ?_
        exact ⟨F5, φ5, m5, ρ5, n5.rep, er5, hf2, q2.after (n3.trans n5)⟩
      · rename_i ρ5 m5 e5
        cases hf2
        exact hb.run n3.rep er3 e5 _ fun F5 φ5 σ5 H5 n5 er5 => q2 _ _ _ _ (n3.trans n5) er5
      · rename_i d5 m5 e5
        cases hf2
        exact hb.run n3.rep er3 e5 _ fun F5 φ5 v5 H5 n5 r5 => q2 _ _ _ _ (n3.trans n5) r5
      · cases hf2
    · rename_i m3 e3
      cases hf2
      refine hc.run rp2 er2 e3 _ fun F3 φ3 H3 n3 => ?_
      rw [if_neg Bool.false_ne_true]
      exact q2 _ _ _ _ n3 (er2.mono n3.exF n3.pre)
    · cases hf2⟩
end
end VI
end
section
namespace VI
open PySem PySem.Spec PyProof.Rows L2

section
variable {K : PySem.W.Frag} {F F' : Hp} {φ φ' : List Addr} {m m' : Mem} {H H' : Hp} {p : Addr} {o : HO}
/-- an object beside all that is told here changes -/
theorem Nxt.mut (n : Nxt K F φ m H F' φ' m' H') (h0 : H p = none) (nl : ¬ Live φ' m' p) (hF : F' p = none) : Nxt K F φ m H F' φ' m' (upd H' p o) := by
  have ne : ∀ (i : Nat) (x : O) (a : Addr), m'[i]? = some x → x ≠ O.dead → φ'[i]? = some a → a ≠ p := fun i x a h1 h2 h3 e => by
    subst e; exact nl ⟨i, x, h1, h2, h3⟩
  refine ⟨n.exF, n.pre, ⟨n.rep.len, fun a x h => ?_, fun i x a h1 h2 h3 => ?_, n.rep.inj⟩, fun a x h l => ?_⟩
  · have e : a ≠ p := fun e => by subst e; rw [hF] at h; cases h
    rw [upd_ne e]; exact n.rep.ex a x h
  · obtain ⟨q1, y, q2, q3⟩ := n.rep.cell i x a h1 h2 h3
    exact ⟨q1, y, by rw [upd_ne (ne i x a h1 h2 h3)]; exact q2, q3⟩
  · have e : a ≠ p := fun e => by subst e; rw [h0] at h; cases h
    obtain ⟨q1, q2, q3⟩ := n.keep a x h l
    exact ⟨by rw [upd_ne e]; exact q1, q2, q3⟩
theorem Nxt.settle (n : Nxt K F φ m H F' φ' m' H') (h0 : H p = none) (h1 : H' p = some o) (nl : ¬ Live φ' m' p) (hF : F' p = none) : Nxt K F φ m H (upd F' p o) φ' m' H' := by
  have e0 : Evl.Ex F' (upd F' p o) := Evl.Ex.new hF
  refine ⟨n.exF.trans e0, n.pre, ⟨n.rep.len, fun a x h => ?_, fun i x a g1 g2 g3 => ?_, n.rep.inj⟩, fun a x h l => ?_⟩
  · by_cases e : a = p
    · subst e; rw [upd_same] at h; rw [h1]; exact h
    · rw [upd_ne e] at h; exact n.rep.ex a x h
  · obtain ⟨q1, y, q2, q3⟩ := n.rep.cell i x a g1 g2 g3
    have e : a ≠ p := fun e => by subst e; exact nl ⟨i, x, g1, g2, g3⟩
    exact ⟨by rw [upd_ne e]; exact q1, y, q2, q3.mono e0 (Pre.refl _)⟩
  · have e : a ≠ p := fun e => by subst e; rw [h0] at h; cases h
    obtain ⟨q1, q2, q3⟩ := n.keep a x h l
    exact ⟨q1, q2, by rw [upd_ne e]; exact q3⟩
theorem Rep.fresh_F (r : Rep K F φ m H) (h : H p = none) : F p = none := by
  cases e : F p with
  | none => rfl
  | some x => rw [r.ex p x e] at h; cases h
theorem Rep.fresh_L (r : Rep K F φ m H) (h : H p = none) : ¬ Live φ m p := fun l => by
  obtain ⟨x, e⟩ := r.live_some l
  rw [h] at e; cases e
end

section
variable {X : Cx} {a b c e elt tg iter : Expr} {es ifs : List Expr} {pos : Pos} {fa fb fc fe : EF} {g : GF} {ws : List Nat} {tc : TF} {fi fr : AF}
def WC (X : Cx) (ifs : List Expr) : TT := fun σ H Q => ∀ pins s, Inv X pins σ H s → wpAny (model X.prog X.w) X.A (forIn ifs true fun c r => if r = true then do let ok ← isTrue c X.env (eval c X.env); pure (ForInStep.yield ok) else pure (ForInStep.yield r)) (TP X pins σ Q) X.xe s
structure JC (X : Cx) (ifs : List Expr) (f : TF) : Prop where
  run : ∀ {F φ m H ρ σ b m'}, Rep X.K F φ m H → EnvR X.K F φ ρ σ → f ρ m = some (b, m') → ∀ Q : Bool → Hp → Prop, (∀ F' φ' H', Nxt X.K F φ m H F' φ' m' H' → Q b H') → WC X ifs σ H Q
theorem jc_nil : JC X [] tYes := ⟨fun rp er hf Q q pins s I => by
  cases hf
  exact pts_nil.run pins s _ _ Q I (q _ _ _ (Nxt.refl rp))⟩
theorem jc_one (h : JT X c tc) : JC X [c] tc := ⟨fun rp er hf Q q pins s I => (pts_one pt_w).run pins s _ _ Q I (h.run rp er hf Q q)⟩

theorem wipe_but {ws vs : List Nat} (h : ∀ i ∈ ws, i ∈ vs) {σ σ' : L2.St} (b : But ws (L2.wipe σ vs) σ') : L2.wipe σ' vs = L2.wipe σ vs := by
  have key : ∀ (τ : L2.St) (us : List Nat) (i : Nat), (L2.wipe τ us)[i]? = if i ∈ us then (if i < τ.length then some none else none) else τ[i]? := by
    intro τ us
    induction us with
    | nil => intro i; simp [L2.wipe]
    | cons u us ih =>
      intro i
      unfold L2.wipe
      by_cases e : u = i
      · subst e
        rw [List.getElem?_set_self']
        simp only [List.mem_cons, true_or, if_true]
        rw [ih]
        split
        · split <;> simp
        · by_cases hl : u < τ.length
          · rw [if_pos hl, List.getElem?_eq_getElem hl]; rfl
          · rw [if_neg hl, List.getElem?_eq_none (by omega)]; rfl
      · rw [List.getElem?_set_ne e, ih]
        have : (i ∈ u :: us) ↔ i ∈ us := by simp [Ne.symm e]
        simp only [this]
  apply List.ext_getElem?
  intro i
  rw [key, key]
  have hl : σ'.length = σ.length := by rw [b.len, wipe_length]
  by_cases hm : i ∈ vs
  · rw [if_pos hm, if_pos hm, hl]
  · rw [if_neg hm, if_neg hm]
    rw [b.at_ i fun z => hm (h i z), key, if_neg hm]

theorem compV_len {own : List Nat} {ρ : Env} : ∀ (ds acc res : List D) (m m' : Mem), compV own g tc fe ρ ds acc m = some (res, m') → res.length ≤ acc.length + ds.length
  | [], acc, res, m, m', h => by cases h; simp
  | d :: ds, acc, res, m, m', h => by
    unfold compV at h
    split at h
    · split at h
      · split at h
        · have := compV_len ds _ res _ m' h
          simp only [List.length_append, List.length_cons, List.length_nil] at this ⊢
          omega
        · cases h
      · have := compV_len ds _ res _ m' h
        simp only [List.length_cons] at this ⊢
        omega
      · cases h
    · cases h

def gB (X : Cx) (scope : Scope) (tg : Expr) : TG := fun v σ H Q => ∀ s0 H0 C cl fp, WG (X.blk s0 H0 scope (compEnvC scope cl C X.env) fp) tg v σ H Q
def tB2 (X : Cx) (scope : Scope) (ifs : List Expr) : TT := fun σ H Q => ∀ s0 H0 C cl fp, WC (X.blk s0 H0 scope (compEnvC scope cl C X.env) fp) ifs σ H Q
def eB (X : Cx) (scope : Scope) (elt : Expr) : TE := fun σ H Q => ∀ s0 H0 C cl fp, WE (X.blk s0 H0 scope (compEnvC scope cl C X.env) fp) elt σ H Q
theorem comp_read (own : List (Str × Nat)) {scope : Scope} (hc : X.calm = true) (hN : X.N.Nodup) (hi : JI X tg iter fi) (hok : BlkOk X.N X.env.scope scope own)
    (hg : ∀ (s : Shared) (H : Hp) (C : Addr) (cl : List (Str × Addr)) (fp : List Addr), JG (X.blk s H scope (compEnvC scope cl C X.env) fp) tg g ws)
    (ht : ∀ (s : Shared) (H : Hp) (C : Addr) (cl : List (Str × Addr)) (fp : List Addr), JC (X.blk s H scope (compEnvC scope cl C X.env) fp) ifs tc)
    (he : ∀ (s : Shared) (H : Hp) (C : Addr) (cl : List (Str × Addr)) (fp : List Addr), JE (X.blk s H scope (compEnvC scope cl C X.env) fp) elt fe)
    (hws : ∀ i ∈ ws, i ∈ own.map (·.2))
    {F φ m H ρ σ d m'} (rp : Rep X.K F φ m H) (er : EnvR X.K F φ ρ σ) (hf : eComp (own.map (·.2)) fi g tc fe ρ m = some (d, m')) (Q : VK) (q : ∀ F' φ' v H', Nxt X.K F φ m H F' φ' m' H' → VR X.K F' φ' d v → Q v H') :
    tLc (WI X tg iter) (gB X scope tg) (tB2 X scope ifs) (eB X scope elt) (own.map (·.2)) σ H Q := by
  unfold eComp eLst aComp at hf
  split at hf
  · rename_i res m1 h1
    cases hf
    split at h1
    · rename_i ds m2 h2
      split at h1
      · rename_i hsz
        refine hi.run rp er h2 _ fun F1 φ1 J H1 n1 it D hD => ?_
        have er1 := er.mono n1.exF n1.pre
        have hFD := n1.rep.fresh_F hD
        have hLD := n1.rep.fresh_L hD
        refine ⟨fun i k H => ∃ F φ m acc vs, k = ds.length - i ∧ i ≤ ds.length ∧ Nxt X.K F1 φ1 m2 H1 F φ m H ∧ H D = some (.lst vs) ∧ VRs X.K F φ acc vs ∧ ¬ Live φ m D ∧ F D = none ∧ acc.length ≤ i ∧ compV (own.map (·.2)) g tc fe ρ (ds.drop i) acc m = some (res, m'),
          ⟨ds.length, F1, φ1, m2, [], [], rfl, Nat.zero_le _, (Nxt.refl n1.rep).mut hD hLD hFD, upd_same, .nil, hLD, hFD, Nat.le_refl _, by rw [List.drop_zero]; exact h1⟩, ?_⟩
        rintro i k H2 ⟨F2, φ2, m3, acc, vs, rfl, hle, n2, hD2, rv2, hL2, hF2, hlen, hf2⟩
        have ex2 := n2.exF
        have pr2 := n2.pre
        by_cases hlt : i < ds.length
        · refine .inr ⟨it.go i H2 (ex2.trans n2.rep.ex) hlt, fun H' => ∃ F φ m acc vs, i + 1 ≤ ds.length ∧ Nxt X.K F1 φ1 m2 H1 F φ m H' ∧ H' D = some (.lst vs) ∧ VRs X.K F φ acc vs ∧ ¬ Live φ m D ∧ F D = none ∧ acc.length ≤ i + 1 ∧ compV (own.map (·.2)) g tc fe ρ (ds.drop (i + 1)) acc m = some (res, m'),
            fun H' ⟨F', φ', m'', acc', vs', a1, a2⟩ => ⟨ds.length - (i + 1), by omega, F', φ', m'', acc', vs', rfl, a1, a2⟩, fun x H3 hy s0 H0 C cl fp => ?_⟩
          obtain ⟨F3, n3, r3⟩ := it.yld i F2 φ2 m3 H2 x H3 ds[i] n2.rep ex2 pr2 (List.getElem?_eq_getElem hlt) hy
          obtain ⟨hD3, hL3, hF3⟩ := n3.keep D _ hD2 hL2
          have n13 := n2.trans n3
          rw [List.drop_eq_getElem_cons hlt] at hf2
          unfold compV at hf2
          split at hf2
          · rename_i ρ4 m4 e4
            have er3 := (er1.mono n13.exF n13.pre).wipe (own.map (·.2))
            refine (hg s0 H0 C cl fp).run n3.rep er3 r3 e4 _ fun F4 φ4 σ4 H4 n4 er4 bt => ⟨wipe_but hws bt, fun s0 H0 C cl fp => ?_⟩
            obtain ⟨hD4, hL4, hF4⟩ := n4.keep D _ hD3 hL3
            have n14 := n13.trans n4
            split at hf2
            · rename_i m5 e5
              refine (ht s0 H0 C cl fp).run n4.rep er4 e5 _ fun F5 φ5 H5 n5 => ?_
              obtain ⟨hD5, hL5, hF5⟩ := n5.keep D _ hD4 hL4
              have n15 := n14.trans n5
              rw [if_pos rfl]
              intro s0 H0 C cl fp
              split at hf2
              · rename_i y m6 e6
                refine (he s0 H0 C cl fp).run n5.rep (er4.mono n5.exF n5.pre) e6 _ fun F6 φ6 vy H6 n6 r6 => ?_
                obtain ⟨hD6, hL6, hF6⟩ := n6.keep D _ hD5 hL5
                have n16 := n15.trans n6
                have n26 := ((n3.trans n4).trans n5).trans n6
                have rv6 := rv2.mono n26.exF n26.pre
                have hF6' : F6 D = none := by rw [hF6, hF5, hF4, hF3, hF2]
                refine ⟨vs, hD6, ?_, F6, φ6, m6, acc ++ [y], vs ++ [vy], hlt, n16.mut hD hL6 hF6', upd_same, rv6.app (.cons r6 .nil), hL6, hF6', by rw [List.length_append, List.length_cons, List.length_nil]; omega, hf2⟩
                rw [← rv2.len]
                show acc.length < 16777216
                omega
              · cases hf2
            · rename_i m5 e5
              refine (ht s0 H0 C cl fp).run n4.rep er4 e5 _ fun F5 φ5 H5 n5 => ?_
              obtain ⟨hD5, hL5, hF5⟩ := n5.keep D _ hD4 hL4
              have n15 := n14.trans n5
              have n25 := (n3.trans n4).trans n5
              rw [if_neg Bool.false_ne_true]
              exact ⟨F5, φ5, m5, acc, vs, hlt, n15, hD5, rv2.mono n25.exF n25.pre, hL5, by rw [hF5, hF4, hF3, hF2], by omega, hf2⟩
            · cases hf2
          · cases hf2
        · have hi' : i = ds.length := by omega
          subst hi'
          rw [List.drop_length] at hf2
          cases hf2
          have n3 := n2.settle hD hD2 hL2 hF2
          exact .inl ⟨it.stop _ H2 (ex2.trans n2.rep.ex) (Nat.le_refl _), q _ _ _ _ (n1.trans n3) (.lst upd_same (rv2.mono (Evl.Ex.new hF2) (Pre.refl _)))⟩
      · cases h1
    · cases h1
  · cases hf
theorem j_comp (own : List (Str × Nat)) {scope : Scope} (hc : X.calm = true) (hN : X.N.Nodup) (hi : JI X tg iter fi) (hok : BlkOk X.N X.env.scope scope own)
    (hg : ∀ (s : Shared) (H : Hp) (C : Addr) (cl : List (Str × Addr)) (fp : List Addr), JG (X.blk s H scope (compEnvC scope cl C X.env) fp) tg g ws)
    (ht : ∀ (s : Shared) (H : Hp) (C : Addr) (cl : List (Str × Addr)) (fp : List Addr), JC (X.blk s H scope (compEnvC scope cl C X.env) fp) ifs tc)
    (he : ∀ (s : Shared) (H : Hp) (C : Addr) (cl : List (Str × Addr)) (fp : List Addr), JE (X.blk s H scope (compEnvC scope cl C X.env) fp) elt fe)
    (hws : ∀ i ∈ ws, i ∈ own.map (·.2)) (hs : ∀ x, foldedSetIterable iter X.env x = pure x := by intro _; rfl) :
    JE X (.ListComp elt [⟨tg, iter, ifs, 0⟩] scope pos) (eComp (own.map (·.2)) fi g tc fe) := ⟨fun {F φ m H ρ σ d m'} rp er hf Q q =>
  we_of (pe_lc (g := gB X scope tg) (tt := tB2 X scope ifs) (te := eB X scope elt) hc hN pi_w hok
    (fun s0 H0 C cl fp => ⟨fun pins s σ H v u Q I r h => h s0 H0 C cl fp pins s u I r⟩) (fun s0 H0 C cl fp => ⟨fun pins s σ H Q I h => h s0 H0 C cl fp pins s I⟩)
    (fun s0 H0 C cl fp => ⟨fun pins s σ H Q I h => h s0 H0 C cl fp pins s I⟩) hs) (comp_read own hc hN hi hok hg ht he hws rp er hf Q q)⟩
theorem js_setLc (i : Nat) (own : List (Str × Nat)) {scope : Scope} {y : Str} {py spos : Pos} (hc : X.calm = true) (hN : X.N.Nodup) (hi : JI X tg iter fi) (hok : BlkOk X.N X.env.scope scope own)
    (hg : ∀ (s : Shared) (H : Hp) (C : Addr) (cl : List (Str × Addr)) (fp : List Addr), JG (X.blk s H scope (compEnvC scope cl C X.env) fp) tg g ws)
    (ht : ∀ (s : Shared) (H : Hp) (C : Addr) (cl : List (Str × Addr)) (fp : List Addr), JC (X.blk s H scope (compEnvC scope cl C X.env) fp) ifs tc)
    (he : ∀ (s : Shared) (H : Hp) (C : Addr) (cl : List (Str × Addr)) (fp : List Addr), JE (X.blk s H scope (compEnvC scope cl C X.env) fp) elt fe)
    (hws : ∀ i ∈ ws, i ∈ own.map (·.2)) (hy : X.N[i]? = some y := by rfl) (hyl : X.env.scope.names.lookup y = some .local := by rfl) (hln : (py.line == pos.line) = true := by rfl) (hkf : X.env.scope.kind = .function := by rfl)
    (han : (scope.names.any fun (n, k) => n == y && (k == .local || k == .cell)) = false := by decide +kernel) (hs : ∀ x, foldedSetIterable iter X.env x = pure x := by intro _; rfl) :
    JS X (.Assign [.Name y py] (.ListComp elt [⟨tg, iter, ifs, 0⟩] scope pos) spos) (bSet (gName i) (eComp (own.map (·.2)) fi g tc fe)) := ⟨fun {F φ m H ρ σ r m'} rp er hf D q => by
  refine ws_of (ps_setLc (g := gB X scope tg) (tt := tB2 X scope ifs) (te := eB X scope elt) hc hN hy hyl (sw_true hkf hyl hln han) pi_w hok
    (fun s0 H0 C cl fp => ⟨fun pins s σ H v u Q I r h => h s0 H0 C cl fp pins s u I r⟩) (fun s0 H0 C cl fp => ⟨fun pins s σ H Q I h => h s0 H0 C cl fp pins s I⟩)
    (fun s0 H0 C cl fp => ⟨fun pins s σ H Q I h => h s0 H0 C cl fp pins s I⟩) hs) ?_
  unfold bSet at hf
  split at hf
  · rename_i d m1 h1
    cases hf
    exact comp_read own hc hN hi hok hg ht he hws rp er h1 _ fun F' φ' v H' n r => q _ _ _ _ n ((er.mono n.exF n.pre).set i r)
  · cases hf⟩
end
end VI
end
section
namespace VI
open PySem PySem.Spec PyProof.Rows L2

/-! ### data, for == of whole trees -/
mutual
def D.pd : D → Option PyData
  | .non => some .none
  | .bl b => some (.bool b)
  | .int i => some (.int i)
  | .str s => some (.str (S s))
  | .tup ds => match D.pds ds with | some xs => some (.tuple xs) | none => none
  | .lst ds => match D.pds ds with | some xs => some (.list xs) | none => none
  | .lsk _ => none
  | .cell _ => none
  | .ty _ => none
def D.pds : List D → Option (List PyData)
  | [] => some []
  | d :: ds => match D.pd d with
    | some x => match D.pds ds with
      | some xs => some (x :: xs)
      | none => none
    | none => none
end
section
variable {K : PySem.W.Frag} {F H : Hp} {φ : List Addr}
mutual
theorem VR.dp (ex : Evl.Ex F H) : ∀ {d : D} {v : V} {p : PyData}, VR K F φ d v → d.pd = some p → Dp K H v p
  | _, _, _, .non, h => by cases h; exact .non
  | _, _, _, .bl b, h => by cases h; exact .bl b
  | _, _, _, .int i, h => by cases h; exact .int i
  | _, _, _, .str s, h => by cases h; exact .str _
  | .tup ds, _, _, .tup q r, h => by
    unfold D.pd at h
    split at h
    · rename_i xs e
      cases h
      exact .tup (Evl.ex_t ex q) (VRs.dps ex r e)
    · cases h
  | .lst ds, _, _, .lst q r, h => by
    unfold D.pd at h
    split at h
    · rename_i xs e
      cases h
      exact .lst (SqL.of (ex _ _ q)) (VRs.dps ex r e)
    · cases h
  | _, _, _, .lsk _ _, h => by cases h
  | _, _, _, .cell _, h => by cases h
  | _, _, _, .ty _, h => by cases h
theorem VRs.dps (ex : Evl.Ex F H) : ∀ {ds : List D} {vs : List V} {ps : List PyData}, VRs K F φ ds vs → D.pds ds = some ps → DpAll K H vs ps
  | _, _, _, .nil, h => by cases h; exact .nil
  | d :: ds, _, _, .cons r rr, h => by
    unfold D.pds at h
    split at h
    · rename_i x e
      split at h
      · rename_i xs e2
        cases h
        exact .cons (VR.dp ex r e) (VRs.dps ex rr e2)
      · cases h
    · cases h
end
end

/-! ### scalars -/
def toV : D → Option V
  | .non => some .non
  | .bl b => some (.bl b)
  | .int i => some (.int i)
  | .str s => some (.str (S s))
  | _ => none
theorem VR.toV {K : PySem.W.Frag} {F : Hp} {φ : List Addr} {d : D} {v w : V} (r : VR K F φ d v) (h : toV d = some w) : v = w := by
  cases r <;> (unfold VI.toV at h; first | (cases h; rfl) | cases h)
theorem toV_VR {K : PySem.W.Frag} {F : Hp} {φ : List Addr} {d : D} {w : V} (h : toV d = some w) : VR K F φ d w := by
  cases d <;> (unfold VI.toV at h; first | (cases h; constructor) | cases h)
def toVs : List D → Option (List V)
  | [] => some []
  | d :: ds => match toV d with
    | some x => match toVs ds with
      | some xs => some (x :: xs)
      | none => none
    | none => none
theorem VRs.toVs {K : PySem.W.Frag} {F : Hp} {φ : List Addr} : ∀ {ds : List D} {vs ws : List V}, VRs K F φ ds vs → toVs ds = some ws → vs = ws ∧ ws.all flatV = true
  | _, _, _, .nil, h => by cases h; exact ⟨rfl, rfl⟩
  | d :: ds, _, _, .cons r rr, h => by
    unfold VI.toVs at h
    split at h
    · rename_i x e
      split at h
      · rename_i xs e2
        cases h
        obtain ⟨q1, q2⟩ := VRs.toVs rr e2
        refine ⟨by rw [r.toV e, q1], ?_⟩
        rw [List.all_cons, q2, Bool.and_true]
        cases d <;> (unfold VI.toV at e; first | (cases e; rfl) | cases e)
      · cases h
    · cases h
/-- what == of two scalars tells -/
def eqSc : D → D → Option Bool
  | .int i, .int j => some (decide (i = j))
  | .str s, .str t => some (decide (s = t))
  | .bl a, .bl b => some (decide (a = b))
  | .non, .non => some true
  | .non, .int _ => some false
  | .int _, .non => some false
  | .non, .bl _ => some false
  | .bl _, .non => some false
  | .non, .str _ => some false
  | .str _, .non => some false
  | .int _, .str _ => some false
  | .str _, .int _ => some false
  | .bl _, .str _ => some false
  | .str _, .bl _ => some false
  | _, _ => none
theorem dI (i j : Int) : decide (V.int i = V.int j) = decide (i = j) := decide_eq_decide.mpr ⟨V.int.inj, fun e => by rw [e]⟩
theorem dS (i j : List Nat) : decide (V.str (S i) = V.str (S j)) = decide (i = j) := decide_eq_decide.mpr ⟨fun e => S_inj (V.str.inj e), fun e => by rw [e]⟩
theorem dB (i j : Bool) : decide (V.bl i = V.bl j) = decide (i = j) := decide_eq_decide.mpr ⟨V.bl.inj, fun e => by rw [e]⟩
theorem eqSc_ok {K : PySem.W.Frag} {F : Hp} {φ : List Addr} {x y : D} {b : Bool} {vx vy : V} (rx : VR K F φ x vx) (ry : VR K F φ y vy) (h : eqSc x y = some b) : scal vx vy = true ∧ decide (vx = vy) = b := by
  cases rx <;> cases ry <;> (unfold eqSc at h; first
    | (cases h; refine ⟨rfl, ?_⟩; first
        | rfl
        | exact dI _ _
        | exact dS _ _
        | exact dB _ _
        | exact decide_eq_false (fun e => nomatch e))
    | cases h)

section
variable {X : Cx} {a b c e : Expr} {es : List Expr} {pos : Pos} {fa fb fe : EF} {fr : AF}
/-- the end of a rule whose value needs no room -/
theorem same {K : PySem.W.Frag} {F : Hp} {φ : List Addr} {m : Mem} {H : Hp} {d : D} {v : V} {Q : VK} (rp : Rep K F φ m H) (q : ∀ F' φ' v H', Nxt K F φ m H F' φ' m H' → VR K F' φ' d v → Q v H') (r : VR K F φ d v) : Q v H := q _ _ _ _ (Nxt.refl rp) r

def oAdd : Mem → D → D → Option D
  | _, .int i, .int j => some (.int (i + j))
  | _, .int i, .bl k => some (.int (i + (if k then 1 else 0)))
  | _, .str s, .str t => if s.length + t.length ≤ 16777216 then some (.str (s ++ t)) else none
  | _, .tup s, .tup t => if s.length + t.length ≤ 16777216 then some (.tup (s ++ t)) else none
  | _, .lst s, .lst t => if s.length + t.length ≤ 16777216 then some (.lst (s ++ t)) else none
  | m, .cell i, .lst t => match m[i]? with
    | some (.lst s) => if s.length + t.length ≤ 16777216 then some (.lst (s ++ t)) else none
    | _ => none
  | m, .lst s, .cell i => match m[i]? with
    | some (.lst t) => if s.length + t.length ≤ 16777216 then some (.lst (s ++ t)) else none
    | _ => none
  | _, _, _ => none
theorem cat_ok {F φ m H ds es vs ws a b} (rp : Rep X.K F φ m H) (ha : H a = some (.lst vs)) (hb : H b = some (.lst ws)) (r1 : VRs X.K F φ ds vs) (r2 : VRs X.K F φ es ws) (hl : ds.length + es.length ≤ 16777216) {Q : VK}
    (q : ∀ F' φ' v H', Nxt X.K F φ m H F' φ' m H' → VR X.K F' φ' (.lst (ds ++ es)) v → Q v H') : ∃ rr, OpR X (binaryOp .Add) rr ∧ rr (.ref a) (.ref b) H Q := by
  refine ⟨_, op_cat, a, b, vs, ws, rfl, rfl, ha, hb, ?_, fun p hp => ?_⟩
  · rw [← r1.len, ← r2.len]; exact hl
  · have n := rp.frozen (o := .lst (vs ++ ws)) hp
    exact q _ _ _ _ n (.lst upd_same ((r1.app r2).mono n.exF n.pre))
theorem od_add : OD X (binaryOp .Add) oAdd := by
  intro F φ m H x y d vx vy rp rx ry h Q q
  unfold oAdd at h
  split at h
  · cases h; cases rx; cases ry
    exact ⟨_, op_add, _, _, rfl, rfl, same rp q (.int _)⟩
  · cases h; cases rx; cases ry
    exact ⟨_, op_add_ib, _, _, rfl, rfl, same rp q (.int _)⟩
  · split at h
    · rename_i hl
      cases h; cases rx; cases ry
      refine ⟨_, op_add_str, _, _, rfl, rfl, ?_, ?_⟩
      · rw [S_len, S_len]; exact hl
      · rw [S_app]; exact same rp q (.str _)
    · cases h
  · split at h
    · rename_i s t hl
      cases h
      cases rx with
      | @tup a _ vs q1 r1 =>
        cases ry with
        | @tup b _ ws q2 r2 =>
          refine ⟨_, op_catA, a, b, vs, ws, rfl, rfl, Evl.ex_t rp.ex q1, Evl.ex_t rp.ex q2, ?_, fun e => ?_, fun _ e => ?_, fun _ _ p hp => ?_⟩
          · rw [← r1.len, ← r2.len]; exact hl
          · subst e; cases r1; exact same rp q (.tup q2 r2)
          · subst e; cases r2; rw [List.append_nil] at q; exact same rp q (.tup q1 r1)
          · have n := rp.frozen (o := .tup (vs ++ ws)) hp
            exact q _ _ _ _ n (.tup (SqT.of upd_same) ((r1.app r2).mono n.exF n.pre))
    · cases h
  · split at h
    · rename_i hl
      cases h
      cases rx with
      | lst q1 r1 =>
        cases ry with
        | lst q2 r2 => exact cat_ok rp (rp.ex _ _ q1) (rp.ex _ _ q2) r1 r2 hl q
    · cases h
  · split at h
    · rename_i hm
      split at h
      · rename_i hl
        cases h
        cases rx with
        | cell hp =>
          obtain ⟨_, o, ho, vs, rfl, r1⟩ := rp.cell _ _ _ hm (fun e => nomatch e) hp
          cases ry with
          | lst q2 r2 => exact cat_ok rp ho (rp.ex _ _ q2) r1 r2 hl q
      · cases h
    · cases h
  · split at h
    · rename_i hm
      split at h
      · rename_i hl
        cases h
        cases ry with
        | cell hp =>
          obtain ⟨_, o, ho, vs, rfl, r2⟩ := rp.cell _ _ _ hm (fun e => nomatch e) hp
          cases rx with
          | lst q1 r1 => exact cat_ok rp (rp.ex _ _ q1) ho r1 r2 hl q
      · cases h
    · cases h
  · cases h
def oSub : Mem → D → D → Option D
  | _, .int i, .int j => some (.int (i - j))
  | _, _, _ => none
theorem od_sub : OD X (binaryOp .Sub) oSub := by
  intro F φ m H x y d vx vy rp rx ry h Q q
  unfold oSub at h
  split at h
  · cases h; cases rx; cases ry
    exact ⟨_, op_sub, _, _, rfl, rfl, same rp q (.int _)⟩
  · cases h
def small64 (i : Int) : Bool := decide (-(18446744073709551616) < i) && decide (i < 18446744073709551616)
def oMul : Mem → D → D → Option D
  | _, .int i, .int j => if (small64 i || small64 j) = true then some (.int (i * j)) else none
  | _, .str s, .int j => if -1000000 < j ∧ j < 1000000 ∧ s.length ≤ 16 then some (.str (List.replicate j.toNat s).flatten) else none
  | _, _, _ => none
theorem repl_fold (s : Array Nat) : ∀ (k : Nat) (acc : Array Nat), ((List.replicate k s).foldl (· ++ ·) acc).toList = acc.toList ++ (List.replicate k s.toList).flatten
  | 0, acc => by simp
  | k + 1, acc => by
    rw [List.replicate_succ, List.foldl_cons, repl_fold s k, List.replicate_succ, List.flatten_cons, Array.toList_append, List.append_assoc]
theorem od_mul : OD X (binaryOp .Mult) oMul := by
  intro F φ m H x y d vx vy rp rx ry h Q q
  unfold oMul at h
  split at h
  · split at h
    · rename_i i j hc
      cases h; cases rx; cases ry
      refine ⟨_, op_mul, _, _, rfl, rfl, ?_, same rp q (.int _)⟩
      unfold small64 at hc
      simp only [Bool.or_eq_true, Bool.and_eq_true, decide_eq_true_eq] at hc
      unfold CMul
      have e : (2 : Int) ^ 64 = 18446744073709551616 := by decide
      rw [e]
      exact hc
    · cases h
  · split at h
    · rename_i s j hc
      obtain ⟨h1, h2, h3⟩ := hc
      cases h; cases rx; cases ry
      refine ⟨fun x y H Q => x = .str (S s) ∧ y = .int j ∧ Q (.str (S (List.replicate j.toNat s).flatten)) H, ?_, rfl, rfl, same rp q (.str _)⟩
      intro pins s0 σ H0 x y v u Q0 I rx ry ⟨e1, e2, q0⟩
      subst e1; subst e2
      obtain ⟨t, rfl⟩ := rx
      obtain ⟨u', rfl⟩ := ry
      refine PySem.P.mul_str ?_ ?_ ?_ ?_
      · rw [decide_eq_false (by omega), decide_eq_false (by omega)]; rfl
      · intro hn _
        rw [S_len]
        have : (1 : Int) * 9223372036854775807 / 1000000 ≤ (2 ^ 63 - 1) / j := by
          rw [Int.le_ediv_iff_mul_le (by omega)]
          have : (1 : Int) * 9223372036854775807 / 1000000 = 9223372036854 := by decide
          rw [this]
          have e : (2 : Int) ^ 63 - 1 = 9223372036854775807 := by decide
          rw [e]
          omega
        have e2 : (1 : Int) * 9223372036854775807 / 1000000 = 9223372036854 := by decide
        omega
      · intro hn _
        rw [S_len]
        have : s.length * j.toNat ≤ 16 * 1000000 := Nat.mul_le_mul h3 (by omega)
        have esz : sizeLine = 16777216 := by decide
        unfold Builtin.Str.tooLong
        first
          | exact decide_eq_false (by omega)
          | (simp; omega)
      · have big : (List.replicate j.toNat s).flatten.length ≤ 16777216 := by
          rw [List.length_flatten, List.map_replicate, List.sum_replicate_nat]
          have : j.toNat * s.length ≤ 1000000 * 16 := Nat.mul_le_mul (by omega) h3
          omega
        have fin : ∀ (z : Str) (tk : Tok), z.cps.toList = (List.replicate j.toNat s).flatten → ∀ st : Shared, (∃ k, st = { s0 with toks := k }) → EP X pins σ Q0 (.str z tk) st := fun z tk hz st ⟨k, hk⟩ => by
          subst hk
          have ez : z = S (List.replicate j.toNat s).flatten := by rw [← hz, S_mk]
          subst ez
          exact ⟨V.str (S (List.replicate j.toNat s).flatten), H0, I.tok k, ⟨_, rfl⟩, q0⟩
        split
        · rename_i hn
          refine ⟨by decide, fin _ _ ?_ _ ⟨_, rfl⟩⟩
          have : j.toNat = 0 := by omega
          rw [this]; rfl
        · split
          · rename_i hn h1
            simp only [Bool.or_eq_true, beq_iff_eq, S_len] at h1
            refine fin _ _ ?_ _ ⟨s0.toks, rfl⟩
            rw [S_tl]
            rcases h1 with h1 | h1
            · have : j.toNat = 1 := by omega
              rw [this]; simp
            · have : s = [] := List.eq_nil_of_length_eq_zero h1
              subst this; simp
          · refine ⟨?_, fin _ _ ?_ _ ⟨_, rfl⟩⟩
            · show _
              have : (⟨(List.replicate j.toNat (S s).cps).foldl (· ++ ·) #[]⟩ : Str).length ≤ 16777216 := by
                show Array.size _ ≤ _
                rw [← Array.length_toList, repl_fold]
                simpa [S] using big
              first
                | exact this
                | (simp [Data.fits]; exact this)
                | (show (if _ then _ else _) = none; rw [if_neg (by have := this; omega)])
            · rw [repl_fold]; simp [S]
    · cases h
  · cases h
def oMod : Mem → D → D → Option D
  | _, .int i, .int j => if 0 < j then some (.int (i % j)) else none
  | _, _, _ => none
theorem od_mod : OD X (binaryOp .Mod) oMod := by
  intro F φ m H x y d vx vy rp rx ry h Q q
  unfold oMod at h
  split at h
  · split at h
    · rename_i hj
      cases h; cases rx; cases ry
      exact ⟨_, op_mod, _, _, rfl, rfl, hj, same rp q (.int _)⟩
    · cases h
  · cases h
def oDiv : Mem → D → D → Option D
  | _, .int i, .int j => if 0 < j ∧ j < 18446744073709551616 then some (.int (i / j)) else none
  | _, _, _ => none
theorem od_div : OD X (binaryOp .FloorDiv) oDiv := by
  intro F φ m H x y d vx vy rp rx ry h Q q
  unfold oDiv at h
  split at h
  · split at h
    · rename_i hj
      cases h; cases rx; cases ry
      refine ⟨_, op_fdivW, _, _, rfl, rfl, wide_div (b := 64) hj.1 ?_ (by decide) (by decide), same rp q (.int _)⟩
      have e : (2 : Nat) ^ 64 = 18446744073709551616 := by decide
      rw [e]; omega
    · cases h
  · cases h
def oPow : Mem → D → D → Option D
  | _, .int i, .int j => if 0 ≤ j ∧ j ≤ 64 ∧ i.natAbs.log2 < 100000 then some (.int (i ^ j.toNat)) else none
  | _, _, _ => none
theorem od_pow : OD X (binaryOp .Pow) oPow := by
  intro F φ m H x y d vx vy rp rx ry h Q q
  unfold oPow at h
  split at h
  · split at h
    · rename_i i j hj
      cases h; cases rx; cases ry
      refine ⟨fun x y H Q => x = .int i ∧ y = .int j ∧ Q (.int (i ^ j.toNat)) H, ?_, rfl, rfl, same rp q (.int _)⟩
      intro pins s0 σ H0 x y v u Q0 I rx ry ⟨e1, e2, q0⟩
      subst e1; subst e2
      obtain ⟨t, rfl⟩ := rx
      obtain ⟨u', rfl⟩ := ry
      refine pow_int hj.1 ?_ ⟨V.int (i ^ j.toNat), H0, I.tok _, ⟨_, rfl⟩, q0⟩
      have hb : Builtin.Int.intBits i ≤ i.natAbs.log2 + 1 := by
        unfold Builtin.Int.intBits
        split <;> omega
      have h1 : (Builtin.Int.intBits i : Int) ≤ 100000 := by omega
      have h2 : (Builtin.Int.intBits i : Int) * j ≤ 100000 * 64 := Int.mul_le_mul h1 hj.2.1 hj.1 (by omega)
      have e : (2 : Int) ^ 27 = 134217728 := by decide
      rw [e]; omega
    · cases h
  · cases h
def oNeg : Mem → D → Option D
  | _, .int i => some (.int (-i))
  | _, _ => none
theorem ud_neg : UD X (unaryOp .USub) oNeg := by
  intro F φ m H x d vx rp rx h Q q
  unfold oNeg at h
  split at h
  · cases h; cases rx
    exact ⟨_, un_neg, _, rfl, same rp q (.int _)⟩
  · cases h
/-! comparisons -/
def cI (p : Int → Int → Bool) : Mem → D → D → Option D
  | _, .int i, .int j => some (.bl (p i j))
  | _, _, _ => none
theorem od_lt : OD X (compareOp .Lt) (cI fun i j => decide (i < j)) := by
  intro F φ m H x y d vx vy rp rx ry h Q q
  unfold cI at h
  split at h
  · cases h; cases rx; cases ry
    exact ⟨_, op_lt, _, _, rfl, rfl, same rp q (.bl _)⟩
  · cases h
theorem od_le : OD X (compareOp .LtE) (cI fun i j => decide (i ≤ j)) := by
  intro F φ m H x y d vx vy rp rx ry h Q q
  unfold cI at h
  split at h
  · cases h; cases rx; cases ry
    exact ⟨_, op_le, _, _, rfl, rfl, same rp q (.bl _)⟩
  · cases h
theorem od_gt : OD X (compareOp .Gt) (cI fun i j => decide (j < i)) := by
  intro F φ m H x y d vx vy rp rx ry h Q q
  unfold cI at h
  split at h
  · cases h; cases rx; cases ry
    exact ⟨_, op_gt, _, _, rfl, rfl, same rp q (.bl _)⟩
  · cases h
theorem od_ge : OD X (compareOp .GtE) (cI fun i j => decide (j ≤ i)) := by
  intro F φ m H x y d vx vy rp rx ry h Q q
  unfold cI at h
  split at h
  · cases h; cases rx; cases ry
    exact ⟨_, op_ge, _, _, rfl, rfl, same rp q (.bl _)⟩
  · cases h
/-- data without dicts, of no great depth -/
def okPD (d : PyData) : Bool := d.plain && decide (d.depth ≤ 64)
theorem okPD.p {d : PyData} (h : okPD d = true) : d.plain = true := (Bool.and_eq_true_iff.mp h).1
theorem okPD.room {A : Around} {a b : PyData} (h : okPD a = true) (hu : A.units + 64 < cLine) : A.units + min a.depth b.depth < cLine := by
  have h1 : a.depth ≤ 64 := of_decide_eq_true (Bool.and_eq_true_iff.mp h).2
  have h2 : min a.depth b.depth ≤ a.depth := Nat.min_le_left _ _
  omega
def rEqP (K : PySem.W.Frag) : R2 := fun x y H Q => ∃ d e, Dp K H x d ∧ Dp K H y e ∧ okPD d = true ∧ okPD e = true ∧ Q (.bl (PyData.eqv d e)) H
def rNeP (K : PySem.W.Frag) : R2 := fun x y H Q => ∃ d e, Dp K H x d ∧ Dp K H y e ∧ okPD d = true ∧ okPD e = true ∧ Q (.bl (!PyData.eqv d e)) H
theorem op_eqP (hu : X.A.units + 64 < cLine) : OpR X (compareOp .Eq) (rEqP X.K) := by
  intro pins s σ H x y v u Q I rx ry h
  obtain ⟨d, e, hd, he, sd, se, q⟩ := h
  obtain ⟨as, r1⟩ := Dp.reads I d x v hd rx
  obtain ⟨bs, r2⟩ := Dp.reads I e y u he ry
  exact SeqAt.eq_plain r1 r2 (okPD.p sd) (okPD.p se) (okPD.room sd hu) ⟨.bl _, H, I, rfl, q⟩
theorem op_neP (hu : X.A.units + 64 < cLine) : OpR X (compareOp .NotEq) (rNeP X.K) := by
  intro pins s σ H x y v u Q I rx ry h
  obtain ⟨d, e, hd, he, sd, se, q⟩ := h
  obtain ⟨as, r1⟩ := Dp.reads I d x v hd rx
  obtain ⟨bs, r2⟩ := Dp.reads I e y u he ry
  exact SeqAt.ne_plain r1 r2 (okPD.p sd) (okPD.p se) (okPD.room sd hu) ⟨.bl _, H, I, rfl, q⟩
def eqDt (x y : D) : Option Bool := match x.pd, y.pd with
  | some p, some r => if (okPD p && okPD r) = true then some (PyData.eqv p r) else none
  | _, _ => none
/-- is it a scalar? then so compared; else as data -/
def isSc : D → Bool
  | .non => true | .bl _ => true | .int _ => true | .str _ => true | _ => false
def oEq (_ : Mem) (x y : D) : Option D := if (isSc x && isSc y) = true then (match eqSc x y with | some b => some (.bl b) | none => none) else (match eqDt x y with | some b => some (.bl b) | none => none)
def oNe (_ : Mem) (x y : D) : Option D := if (isSc x && isSc y) = true then (match eqSc x y with | some b => some (.bl (!b)) | none => none) else (match eqDt x y with | some b => some (.bl (!b)) | none => none)
theorem od_eq (hu : X.A.units + 64 < cLine) : OD X (compareOp .Eq) oEq := by
  intro F φ m H x y d vx vy rp rx ry h Q q
  unfold oEq at h
  split at h
  · split at h
    · rename_i b hb
      cases h
      obtain ⟨h1, h2⟩ := eqSc_ok rx ry hb
      refine ⟨_, op_eq, h1, ?_⟩
      rw [h2]
      exact same rp q (.bl _)
    · cases h
  · unfold eqDt at h
    split at h
    · rename_i b hb
      cases h
      split at hb
      · rename_i p r e1 e2
        split at hb
        · rename_i hs
          cases hb
          rw [Bool.and_eq_true] at hs
          exact ⟨_, op_eqP hu, p, r, rx.dp rp.ex e1, ry.dp rp.ex e2, hs.1, hs.2, same rp q (.bl _)⟩
        · cases hb
      · cases hb
    · cases h
theorem od_ne (hu : X.A.units + 64 < cLine) : OD X (compareOp .NotEq) oNe := by
  intro F φ m H x y d vx vy rp rx ry h Q q
  unfold oNe at h
  split at h
  · split at h
    · rename_i b hb
      cases h
      obtain ⟨h1, h2⟩ := eqSc_ok rx ry hb
      refine ⟨_, op_ne, h1, ?_⟩
      rw [h2]
      exact same rp q (.bl _)
    · cases h
  · unfold eqDt at h
    split at h
    · rename_i b hb
      cases h
      split at hb
      · rename_i p r e1 e2
        split at hb
        · rename_i hs
          cases hb
          rw [Bool.and_eq_true] at hs
          exact ⟨_, op_neP hu, p, r, rx.dp rp.ex e1, ry.dp rp.ex e2, hs.1, hs.2, same rp q (.bl _)⟩
        · cases hb
      · cases hb
    · cases h
def isNon : D → Bool
  | .non => true
  | _ => false
theorem VR.isNon {K : PySem.W.Frag} {F : Hp} {φ : List Addr} {d : D} {v : V} (r : VR K F φ d v) : decide (v = .non) = VI.isNon d := by
  cases r <;> first | rfl | exact decide_eq_false (fun e => nomatch e)
def oIs : Mem → D → D → Option D
  | _, x, .non => some (.bl (isNon x))
  | _, .bl a, .bl b => some (.bl (decide (a = b)))
  | _, _, _ => none
def oIsNot : Mem → D → D → Option D
  | _, x, .non => some (.bl (!isNon x))
  | _, .bl a, .bl b => some (.bl (!decide (a = b)))
  | _, _, _ => none
theorem od_is : OD X (compareOp .Is) oIs := by
  intro F φ m H x y d vx vy rp rx ry h Q q
  unfold oIs at h
  split at h
  · cases h; cases ry
    refine ⟨_, op_isN, rfl, ?_⟩
    rw [rx.isNon]
    exact same rp q (.bl _)
  · cases h; cases rx; cases ry
    exact ⟨_, op_isBl, _, _, rfl, rfl, same rp q (.bl _)⟩
  · cases h
theorem od_isnot : OD X (compareOp .IsNot) oIsNot := by
  intro F φ m H x y d vx vy rp rx ry h Q q
  unfold oIsNot at h
  split at h
  · cases h; cases ry
    refine ⟨_, op_notN, rfl, ?_⟩
    rw [rx.isNon]
    exact same rp q (.bl _)
  · cases h; cases rx; cases ry
    exact ⟨_, op_notBl, _, _, rfl, rfl, same rp q (.bl _)⟩
  · cases h
/-- in: of a sign in a text, of a text in a text, of a scalar in a list or tuple of scalars, of data in a list of data -/
def inSub (s t : List Nat) : Bool := !(Builtin.Str.occurrences (S t) (S s) 0 t.length 1).isEmpty
def inFl (x : D) (ds : List D) : Option Bool := match toV x, toVs ds with
  | some v, some vs => some (inV v vs)
  | _, _ => none
def inB : Mem → D → D → Option Bool
  | _, .str [c], .str t => some (decide (c ∈ t))
  | _, .str s, .str t => some (inSub s t)
  | _, x, .lst ds => inFl x ds
  | _, x, .tup ds => inFl x ds
  | _, x, .lsk ds => inFl x ds
  | m, x, .cell i => match m[i]? with
    | some (.lst ds) => inFl x ds
    | _ => none
  | _, _, _ => none
def oIn (m : Mem) (x y : D) : Option D := match inB m x y with | some b => some (.bl b) | none => none
def oNotIn (m : Mem) (x y : D) : Option D := match inB m x y with | some b => some (.bl (!b)) | none => none
theorem flat_of {x : D} {v : V} (h : toV x = some v) : flatV v = true := by
  cases x <;> (unfold toV at h; first | (cases h; rfl) | cases h)
theorem inFl_ok {F φ m H x ds vx p vs b} (rp : Rep X.K F φ m H) (rx : VR X.K F φ x vx) (hs : SqL X.K H p vs ∨ SqT X.K H p vs) (rv : VRs X.K F φ ds vs) (h : inFl x ds = some b) :
    (SqL X.K H p vs ∨ SqT X.K H p vs) ∧ flatV vx = true ∧ vs.all flatV = true ∧ inV vx vs = b := by
  unfold inFl at h
  split at h
  · rename_i v ws e1 e2
    cases h
    obtain ⟨q1, q2⟩ := rv.toVs e2
    have q3 := rx.toV e1
    subst q1 q3
    exact ⟨hs, flat_of e1, q2, rfl⟩
  · cases h
theorem inB_ok {F φ m H x y b vx vy} (rp : Rep X.K F φ m H) (rx : VR X.K F φ x vx) (ry : VR X.K F φ y vy) (h : inB m x y = some b) {Q : VK} (neg : Bool) (q : Q (.bl (if neg then !b else b)) H) :
    (∃ (i : Nat) (j : Str), vx = .str ⟨#[i]⟩ ∧ vy = .str j ∧ b = decide (i ∈ j.cps.toList)) ∨ (∃ i j : Str, vx = .str i ∧ vy = .str j ∧ b = !(Builtin.Str.occurrences j i 0 j.length 1).isEmpty) ∨ rIn X.K neg vx vy H Q := by
  unfold inB at h
  split at h
  · rename_i c t
    cases h; cases rx; cases ry
    exact .inl ⟨c, S t, rfl, rfl, by rw [S_tl]⟩
  · cases h; cases rx; cases ry
    exact .inr (.inl ⟨_, _, rfl, rfl, by rw [S_len]; rfl⟩)
  · cases ry with
    | lst q1 r1 =>
      obtain ⟨h1, h2, h3, h4⟩ := inFl_ok rp rx (.inl (SqL.of (rp.ex _ _ q1))) r1 h
      exact .inr (.inr ⟨_, _, rfl, h1, h2, h3, by rw [h4]; exact q⟩)
  · cases ry with
    | tup q1 r1 =>
      obtain ⟨h1, h2, h3, h4⟩ := inFl_ok rp rx (.inr (Evl.ex_t rp.ex q1)) r1 h
      exact .inr (.inr ⟨_, _, rfl, h1, h2, h3, by rw [h4]; exact q⟩)
  · cases ry with
    | lsk q1 r1 =>
      obtain ⟨h1, h2, h3, h4⟩ := inFl_ok rp rx (.inl (Evl.ex_l rp.ex q1)) r1 h
      exact .inr (.inr ⟨_, _, rfl, h1, h2, h3, by rw [h4]; exact q⟩)
  · split at h
    · rename_i hm
      cases ry with
      | cell hp =>
        obtain ⟨_, o, ho, vs, rfl, r1⟩ := rp.cell _ _ _ hm (fun e => nomatch e) hp
        obtain ⟨h1, h2, h3, h4⟩ := inFl_ok rp rx (.inl (SqL.of ho)) r1 h
        exact .inr (.inr ⟨_, _, rfl, h1, h2, h3, by rw [h4]; exact q⟩)
    · cases h
  · cases h
theorem od_in : OD X (compareOp .In) oIn := by
  intro F φ m H x y d vx vy rp rx ry h Q q
  unfold oIn at h
  split at h
  · rename_i b hb
    cases h
    rcases inB_ok rp rx ry hb (Q := Q) false (same rp q (.bl _)) with ⟨i, j, e1, e2, e3⟩ | ⟨i, j, e1, e2, e3⟩ | e
    · exact ⟨_, op_in_sign, _, _, e1, e2, by rw [← e3]; exact same rp q (.bl _)⟩
    · exact ⟨_, op_in_str, _, _, e1, e2, by rw [← e3]; exact same rp q (.bl _)⟩
    · exact ⟨_, op_in_seq, e⟩
  · cases h
theorem od_notIn : OD X (compareOp .NotIn) oNotIn := by
  intro F φ m H x y d vx vy rp rx ry h Q q
  unfold oNotIn at h
  split at h
  · rename_i b hb
    cases h
    rcases inB_ok rp rx ry hb (Q := Q) true (same rp q (.bl _)) with ⟨i, j, e1, e2, e3⟩ | ⟨i, j, e1, e2, e3⟩ | e
    · exact ⟨_, op_notIn_sign, _, _, e1, e2, by rw [← e3]; exact same rp q (.bl _)⟩
    · exact ⟨_, op_notin_str, _, _, e1, e2, by rw [← e3]; exact same rp q (.bl _)⟩
    · exact ⟨_, op_notIn_seq, e⟩
  · cases h
end
end VI
end
section
namespace VI
open PySem PySem.Spec PyProof.Rows L2

/-! ### defs -/
def fnD (np n : Nat) (b : BF) : FD := fun ds m => if ds.length = np then (match b (ds.map some ++ List.replicate (n - ds.length) none) m with
  | some (.rt d, m1) => some (d, m1)
  | some (.nx _, m1) => some (.non, m1)
  | _ => none) else none
def spD (K : PySem.W.Frag) (g : FD) : Sp := fun vs H Q _ => ∃ F φ m ds d m', Rep K F φ m H ∧ VRs K F φ ds vs ∧ g ds m = some (d, m') ∧ ∀ F' φ' v H', Nxt K F φ m H F' φ' m' H' → VR K F' φ' d v → Q v H'
/-- all arguments by name, in the parameters' order -/
def KwB (fd : FuncData) (ps : List Str) : Prop := ∀ us : List Value, us.length = ps.length → bindArgs fd ⟨[], ps.zip us⟩ = pure (ps.zip us)
structure Fn (P : Program) (w : World) (K : PySem.W.Frag) (mg : Str → Option Value) (base : Heap) (k : Nat) (x : Str) (ps : List Str) (g : FD) : Prop where
  ex : ∃ f fd, FnOk P w K mg base CX0 k f fd ps (spD K g) ∧ mg x = some (.ref f) ∧ PySem.W.keepIn K (.ref f) = true ∧ Binds K fd ps []
structure FnK (P : Program) (w : World) (K : PySem.W.Frag) (mg : Str → Option Value) (base : Heap) (k : Nat) (x : Str) (ps : List Str) (g : FD) : Prop where
  ex : ∃ f fd, FnOk P w K mg base CX0 k f fd ps (spD K g) ∧ mg x = some (.ref f) ∧ PySem.W.keepIn K (.ref f) = true ∧ KwB fd ps
theorem Fn.mono {P w K mg base j k x ps g} (F : Fn P w K mg base j x ps g) (h : j ≤ k) : Fn P w K mg base k x ps g := by
  obtain ⟨f, fd, a, b⟩ := F.ex
  exact ⟨f, fd, a.mono h, b⟩
section
variable {P : Program} {w : World} {K : PySem.W.Frag} {mg : Str → Option Value} {base : Heap}
theorem okD {x qual : Str} {st : Stmt} {f : Addr} {fd : FuncData} {N ps : List Str} {k : Nat} {b : BF} (F : Fun K x qual st f fd) (S : FnScope N ps (defScope st))
    (body : ∀ (cdv : Value) (A : Around) (outer : List PySem.Env) (s : Shared) (H : Hp) (E : XK), Room k (A.deeper (envOfC qual (defScope st) s.heap.objs.size f cdv)) → JB (cxOf CX0 P w K mg base N qual (defScope st) f cdv A outer s H E).nox (defBody st) b) :
    FnOk P w K mg base CX0 (k + 1) f fd ps (spD K (fnD ps.length N.length b)) := by
  refine F.ok S (fun vs H Q E h => ?_) (fun cdv A outer s H vs Q E hr h => ?_)
  · obtain ⟨F0, φ, m, ds, d, m', rp, rv, hg, _⟩ := h
    unfold fnD at hg
    split at hg
    · rename_i hl
      rw [← rv.len]; exact hl
    · cases hg
  · obtain ⟨F0, φ, m, ds, d, m', rp, rv, hg, q⟩ := h
    unfold fnD at hg
    split at hg
    · rename_i hl
      refine ⟨WB _ (defBody st), pss_w, ?_⟩
      split at hg
      · rename_i d1 m1 hb
        cases hg
        exact (body cdv A outer s H E hr).run (X := _) rp (EnvR.begin rfl rv) hb _ fun F' φ' v H' n r => q _ _ _ _ n r
      · rename_i ρ1 m1 hb
        cases hg
        exact (body cdv A outer s H E hr).run (X := _) rp (EnvR.begin rfl rv) hb _ fun F' φ' σ' H' n r => q _ _ _ _ n .non
      · cases hg
    · cases hg
end
section
variable {X : Cx} {a b c e o tg : Expr} {es : List Expr} {pos p apos cpos : Pos} {fa fb fe fo fi : EF} {fr : AF} {x name : Str} {ps : List Str} {g : FD} {k : Nat}
theorem j_call (F : Fn X.prog X.w X.K X.mg X.base k x ps g) (hr : Room k X.A) (ha : JA X (e :: es) fr) (hg : Gl X x := by rfl) (hdb : (x == ("__debug__" : Str)) = false := by decide) (he : starEach (e :: es) X.env = (false, eval e X.env) :: starEach es X.env := by rfl)
    (hpl : (backTo pos (starEach es X.env)).any (·.1) = false := by rfl) : JE X (.Call (.Name x p) (e :: es) [] pos) (eCall g fr) := ⟨fun {F0 φ m H ρ σ d m'} rp er hf Q q => by
  obtain ⟨f, fd, F, hm, hk, hb⟩ := F.ex
  unfold eCall at hf
  split at hf
  · rename_i ds m1 h1
    refine we_of (pe_call F hr hg hm hk hb .nil pass0 pa_w hdb he hpl) (ha.run rp er h1 _ fun F1 φ1 vs H1 n1 r1 => ?_)
    show spD X.K g (vs ++ []) H1 Q E0
    rw [List.append_nil]
    exact ⟨F1, φ1, m1, ds, d, m', n1.rep, r1, hf, fun F' φ' v H' n r => q _ _ _ _ (n1.trans n) r⟩
  · cases hf⟩
theorem j_call0 (F : Fn X.prog X.w X.K X.mg X.base k x ps g) (hr : Room k X.A) (hg : Gl X x := by rfl) (hdb : (x == ("__debug__" : Str)) = false := by decide) : JE X (.Call (.Name x p) [] [] pos) (eCall g aNil) := ⟨fun {F0 φ m H ρ σ d m'} rp er hf Q q => by
  obtain ⟨f, fd, F, hm, hk, hb⟩ := F.ex
  refine we_of (pe_call0 F hr hg hm hk hb .nil pass0 hdb) ?_
  show spD X.K g ([] ++ []) H Q E0
  exact ⟨F0, φ, m, [], d, m', rp, .nil, hf, fun F' φ' v H' n r => q _ _ _ _ n r⟩⟩
/-- f(a = .., b = ..), all by keywords, in the parameters' order -/
def WK (X : Cx) (kws : List Keyword) : TA := fun σ H Q => ∀ (pos : Pos) (pins : List (Addr × Obj)) (s : Shared), Inv X pins σ H s → wpAny (model X.prog X.w) X.A (evalAll ((backToKw pos (keywordEach kws X.env)).map (·.2))) (AP X pins σ Q) X.xe s
structure JK (X : Cx) (kws : List Keyword) (f : AF) : Prop where
  run : ∀ {F φ m H ρ σ ds m'}, Rep X.K F φ m H → EnvR X.K F φ ρ σ → f ρ m = some (ds, m') → ∀ Q : List V → Hp → Prop, (∀ F' φ' vs H', Nxt X.K F φ m H F' φ' m' H' → VRs X.K F' φ' ds vs → Q vs H') → WK X kws σ H Q
theorem pk_w {kws : List Keyword} : PK X kws (WK X kws) := ⟨fun pos pins s σ H Q I h => h pos pins s I⟩
theorem jk_nil : JK X [] aNil := ⟨fun rp er hf Q q => by
  cases hf
  exact fun pos pins s I => pk_nil.run pos pins s _ _ Q I (q _ _ _ _ (Nxt.refl rp) .nil)⟩
theorem jk_cons {nm : Option Str} {kpos : Pos} {kws : List Keyword} (ha : JE X e fe) (hr : JK X kws fr) : JK X (⟨nm, e, kpos⟩ :: kws) (aCons fe fr) := ⟨fun {F φ m H ρ σ ds m'} rp er hf Q q => by
  intro pos pins s I
  refine (pk_cons pe_w pk_w).run pos pins s σ H Q I ?_
  unfold aCons at hf
  split at hf
  · rename_i x m1 h1
    split at hf
    · rename_i xs m2 h2
      cases hf
      refine ha.run rp er h1 _ fun F1 φ1 vx H1 n1 r1 => ?_
      refine hr.run n1.rep (er.mono n1.exF n1.pre) h2 _ fun F2 φ2 vs H2 n2 r2 => ?_
      exact q _ _ _ _ (n1.trans n2) (.cons (r1.mono n2.exF n2.pre) r2)
    · cases hf
  · cases hf⟩
theorem j_callK {kws : List Keyword} (F : FnK X.prog X.w X.K X.mg X.base k x ps g) (hr : Room k X.A) (ha : JK X kws fr) (hks : (backToKw pos (keywordEach kws X.env)).filterMap (·.1) = ps := by rfl) (hg : Gl X x := by rfl)
    (hall : (backToKw pos (keywordEach kws X.env)).all (·.1.isSome) = true := by rfl) (hdb : (x == ("__debug__" : Str)) = false := by decide)
    (hpl : ((backTo pos (starEach [] X.env)).any (·.1) || (backToKw pos (keywordEach kws X.env)).any (·.1.isNone)) = false := by rfl) : JE X (.Call (.Name x p) [] kws pos) (eCall g fr) := ⟨fun {F0 φ m H ρ σ d m'} rp er hf Q q => by
  obtain ⟨f, fd, F, hm, hk, hbk⟩ := F.ex
  unfold eCall at hf
  split at hf
  · rename_i ds m1 h1
    intro pins s I
    refine wpAny_Call_Name_kw (ld_glob I hg hm ?_ hdb)
    refine PySem.W.callWith_KW0 (h₀ := X.base) I.ok.mod.kin hk hall ?_ hpl
    refine thn (ha.run rp er h1 (fun vs H1 => spD X.K g vs H1 Q E0) (fun F1 φ1 vs H1 n1 r1 => ⟨F1, φ1, m1, ds, d, m', n1.rep, r1, hf, fun F' φ' v H' n r => q _ _ _ _ (n1.trans n) r⟩) pos pins s I) fun ws s2 ⟨zs, H2, I2, rz, q2⟩ => ⟨I2.kIn, ?_⟩
    rw [hks]
    have hl : ws.length = ps.length := by rw [← rz.length]; exact F.len _ _ _ E0 q2
    refine wpAny_call (codeAny_mono (F.run X.A X.stack s2 H2 ⟨[], ps.zip ws⟩ ws zs Q E0 hr I2.env0 (.of_eq (hbk ws hl)) rz q2) fun r s' hq => ?_)
    cases r with
    | error e => exact hq.elim
    | ok fl =>
      cases fl with
      | ret u => exact I2.after hq
      | next => exact hq.elim
      | brk => exact hq.elim
      | cont => exact hq.elim
  · cases hf⟩
end
end VI
end
section
namespace VI
open PySem PySem.Spec PyProof.Rows L2

section
variable {K : PySem.W.Frag} {F : Hp} {φ : List Addr}
theorem VRs.atI {ds : List D} {vs : List V} {i : Int} {d : D} (r : VRs K F φ ds vs) (h : L2.atI ds i = some d) : ∃ v, L2.atI vs i = some v ∧ VR K F φ d v := by
  unfold L2.atI at h ⊢
  rw [← r.len]
  cases e : ixN ds.length i with
  | none => rw [e] at h; cases h
  | some j =>
    rw [e] at h
    obtain ⟨v, h1, h2⟩ := r.get h
    exact ⟨v, h1, h2⟩
def cutD {α : Type} (xs : List α) (lo hi : Option Int) : List α := (xs.drop (HT.sIx xs.length 0 lo)).take (HT.sIx xs.length xs.length hi - HT.sIx xs.length 0 lo)
theorem VRs.cut {ds : List D} {vs : List V} (r : VRs K F φ ds vs) (lo hi : Option Int) : VRs K F φ (cutD ds lo hi) (cutV vs lo hi) := by
  unfold cutD cutV
  rw [← r.len]
  exact (r.drop _).take _
theorem cutS_S (s : List Nat) (lo hi : Option Int) : cutS (S s) lo hi = S (cutD s lo hi) := by
  unfold cutS cutD S
  simp [Str.length]
end
section
variable {X : Cx} {a b c e o tg : Expr} {es : List Expr} {pos p apos cpos : Pos} {fa fb fe fo fi : EF} {fr : AF} {x name : Str}

/-! ### subscripts -/
def oIx : Mem → D → D → Option D
  | _, .tup ds, .int i => atI ds i
  | _, .lst ds, .int i => atI ds i
  | _, .lsk ds, .int i => atI ds i
  | m, .cell c, .int i => match m[c]? with
    | some (.lst ds) => atI ds i
    | _ => none
  | _, .str s, .int i => if s.length ≤ 16777216 then (match atI s i with | some c => some (.str [c]) | none => none) else none
  | _, _, _ => none
theorem j_ix (ha : JE X a fa) (hb : JE X b fb) (hs : PlainIx b := by exact fun _ _ => rfl) : JE X (.Subscript a b pos) (eOp oIx fa fb) := ⟨fun rp er hf Q q => by
  refine we_of (pe_ix ixr_w pe_w pe_w hs) ?_
  refine two (Q := Q) ha hb rp er hf fun F2 φ2 H2 x y vx vy n rx ry h => ?_
  unfold oIx at h
  split at h
  · cases ry
    cases rx with
    | tup q1 r1 =>
      obtain ⟨v, h1, h2⟩ := r1.atI h
      exact ⟨_, ix_tup, _, _, _, v, rfl, rfl, Evl.ex_t n.rep.ex q1, h1, q _ _ _ _ n h2⟩
  · cases ry
    cases rx with
    | lst q1 r1 =>
      obtain ⟨v, h1, h2⟩ := r1.atI h
      exact ⟨_, ix_list, _, _, _, v, rfl, rfl, SqL.of (n.rep.ex _ _ q1), h1, q _ _ _ _ n h2⟩
  · cases ry
    cases rx with
    | lsk q1 r1 =>
      obtain ⟨v, h1, h2⟩ := r1.atI h
      exact ⟨_, ix_list, _, _, _, v, rfl, rfl, Evl.ex_l n.rep.ex q1, h1, q _ _ _ _ n h2⟩
  · split at h
    · rename_i hm
      cases ry
      cases rx with
      | cell hp =>
        obtain ⟨_, o, ho, vs, rfl, r1⟩ := n.rep.cell _ _ _ hm (fun e => nomatch e) hp
        obtain ⟨v, h1, h2⟩ := r1.atI h
        exact ⟨_, ix_list, _, _, _, v, rfl, rfl, SqL.of ho, h1, q _ _ _ _ n h2⟩
    · cases h
  · split at h
    · rename_i hl
      split at h
      · rename_i c hc
        cases h; cases rx; cases ry
        refine ⟨_, ix_str, _, _, c, rfl, rfl, ?_, ?_, q _ _ _ _ n (.str [c])⟩
        · rw [S_len]; exact hl
        · rw [S_tl]; exact hc
      · cases h
    · cases h
  · cases h⟩
/-! ### slices -/
abbrev PFn := Env → Mem → Option (Option Int × Mem)
def WP (X : Cx) (e : Option Expr) : TO := fun σ H Q => ∀ pins s, Inv X pins σ H s → wpAny (model X.prog X.w) X.A (evalPart e X.env) (fun u s' => ∃ o H', Inv X pins σ H' s' ∧ IsPart u o ∧ Q o H') X.xe s
theorem po_w {e : Option Expr} : PO X e (WP X e) := ⟨fun pins s σ H Q I h => h pins s I⟩
structure JP (X : Cx) (e : Option Expr) (f : PFn) : Prop where
  run : ∀ {F φ m H ρ σ o m'}, Rep X.K F φ m H → EnvR X.K F φ ρ σ → f ρ m = some (o, m') → ∀ Q : Option Int → Hp → Prop, (∀ F' φ' H', Nxt X.K F φ m H F' φ' m' H' → Q o H') → WP X e σ H Q
def pNo : PFn := fun _ m => some (none, m)
def pSo (f : EF) : PFn := fun ρ m => match f ρ m with
  | some (.int i, m1) => some (some i, m1)
  | _ => none
theorem jp_no : JP X none pNo := ⟨fun rp er hf Q q pins s I => by
  cases hf
  exact po_none.run pins s _ _ Q I (q _ _ _ (Nxt.refl rp))⟩
theorem jp_so (h : JE X e fe) : JP X (some e) (pSo fe) := ⟨fun {F φ m H ρ σ o m'} rp er hf Q q pins s I => by
  refine (po_some pe_w).run pins s σ H Q I ?_
  unfold pSo at hf
  split at hf
  · rename_i i m1 h1
    cases hf
    refine h.run rp er h1 _ fun F1 φ1 v H1 n1 r1 => ?_
    cases r1
    exact ⟨i, rfl, q _ _ _ n1⟩
  · cases hf⟩
def slD : Mem → D → Option Int → Option Int → Option D
  | _, .str s, lo, hi => if s.length ≤ 16777216 then some (.str (cutD s lo hi)) else none
  | _, .tup ds, lo, hi => some (.tup (cutD ds lo hi))
  | _, .lst ds, lo, hi => some (.lst (cutD ds lo hi))
  | _, .lsk ds, lo, hi => some (.lst (cutD ds lo hi))
  | m, .cell c, lo, hi => match m[c]? with
    | some (.lst ds) => some (.lst (cutD ds lo hi))
    | _ => none
  | _, _, _, _ => none
def eSl (fa : EF) (f1 f2 : PFn) : EF := fun ρ m => match fa ρ m with
  | some (x, m1) => match f1 ρ m1 with
    | some (lo, m2) => match f2 ρ m2 with
      | some (hi, m3) => match slD m3 x lo hi with
        | some d => some (d, m3)
        | none => none
      | none => none
    | none => none
  | none => none
theorem cutD_all {α : Type} {xs : List α} {lo hi : Option Int} (h : HT.sIx xs.length 0 lo = 0 ∧ HT.sIx xs.length xs.length hi = xs.length) : cutD xs lo hi = xs := by
  unfold cutD
  rw [h.1, h.2, List.drop_zero, Nat.sub_zero, List.take_length]
theorem j_sl {lo hi : Option Expr} {f1 f2 : PFn} {p2 : Pos} (ha : JE X a fa) (h1 : JP X lo f1) (h2 : JP X hi f2) : JE X (.Subscript a (.Slice lo hi none p2) pos) (eSl fa f1 f2) := ⟨fun {F φ m H ρ σ d m'} rp er hf Q q => by
  refine we_of (pe_slice slr_w pe_w po_w po_w) ?_
  unfold eSl at hf
  split at hf
  · rename_i x m1 e1
    split at hf
    · rename_i lo' m2 e2
      split at hf
      · rename_i hi' m3 e3
        split at hf
        · rename_i d' e4
          cases hf
          refine ha.run rp er e1 _ fun F1 φ1 v H1 n1 r1 => ?_
          have er1 := er.mono n1.exF n1.pre
          refine h1.run n1.rep er1 e2 _ fun F2 φ2 H2 n2 => ?_
          refine h2.run n2.rep (er1.mono n2.exF n2.pre) e3 _ fun F3 φ3 H3 n3 => ?_
          have n := (n1.trans n2).trans n3
          have r3 := (r1.mono n2.exF n2.pre).mono n3.exF n3.pre
          have lst : ∀ {p : Addr} {ds : List D} {vs : List V}, SqL X.K H3 p vs → VRs X.K F3 φ3 ds vs → d = .lst (cutD ds lo' hi') → ∃ rr, SlR X rr ∧ rr (.ref p) lo' hi' H3 Q := fun {p ds vs} hs hr hd => by
            refine ⟨_, sl_list, p, vs, rfl, hs, fun p' hp => ?_⟩
            have n4 := n3.rep.frozen (o := .lst (cutV vs lo' hi')) hp
            subst hd
            exact q _ _ _ _ (n.trans n4) (.lst upd_same ((hr.cut lo' hi').mono n4.exF n4.pre))
          unfold slD at e4
          split at e4
          · split at e4
            · rename_i s hl
              cases e4; cases r3
              refine ⟨_, sl_str, S s, rfl, ?_, ?_⟩
              · rw [S_len]; exact hl
              · rw [cutS_S]; exact q _ _ _ _ n (.str _)
            · cases e4
          · rename_i ds
            cases e4
            cases r3 with
            | @tup p _ vs q1 rv =>
              refine ⟨_, sl_tupA, p, vs, rfl, Evl.ex_t n3.rep.ex q1, fun hw => ?_, fun _ p' hp => ?_⟩
              · rw [← rv.len] at hw
                rw [cutD_all hw] at q
                exact q _ _ _ _ n (.tup q1 rv)
              · have n4 := n3.rep.frozen (o := .tup (cutV vs lo' hi')) hp
                exact q _ _ _ _ (n.trans n4) (.tup (SqT.of upd_same) ((rv.cut lo' hi').mono n4.exF n4.pre))
          · cases e4
            cases r3 with
            | lst q1 rv => exact lst (SqL.of (n3.rep.ex _ _ q1)) rv rfl
          · cases e4
            cases r3 with
            | lsk q1 rv => exact lst (Evl.ex_l n3.rep.ex q1) rv rfl
          · split at e4
            · rename_i hm
              cases e4
              cases r3 with
              | cell hp =>
                obtain ⟨_, o, ho, vs, rfl, rv⟩ := n3.rep.cell _ _ _ hm (fun e => nomatch e) hp
                exact lst (SqL.of ho) rv rfl
            · cases e4
          · cases e4
        · cases hf
      · cases hf
    · cases hf
  · cases hf⟩
/-! ### xs[i] = v, d[k] = v -/
def toKey : D → Option Key
  | .int i => some (.inl i)
  | .str s => some (.inr (S s))
  | _ => none
def putD (kvs : List (Key × D)) (k : Key) (v : D) : List (Key × D) := match kvs with
  | [] => [(k, v)]
  | (k', v') :: r => if k' = k then (k, v) :: r else (k', v') :: putD r k v
def gIx (fo fi : EF) : GF := fun d ρ m => match fo ρ m with
  | some (.cell c, m1) => match fi ρ m1 with
    | some (.int i, m2) => match m2[c]? with
      | some (.lst ds) => match ixN ds.length i with
        | some j => some (ρ, m2.set c (.lst (ds.set j d)))
        | none => none
      | _ => none
    | _ => none
  | _ => none
theorem jg_ix (ho : JE X o fo) (hi : JE X e fi) (ha : ∀ v, assign (.Subscript o e pos) X.env v = (do
      let ov ← holding [v] (eval o X.env)
      let iv ← holding [v, ov] (eval e X.env)
      standAt pos
      holding [v, ov, iv] (setItem ov iv v)
      release [v, ov, iv] []) := by intro _; rfl) : JG X (.Subscript o e pos) (gIx fo fi) [] := ⟨fun {F φ m H ρ σ d v ρ' m'} rp er rv hf Q q => by
  refine wg_of (pg_sub pe_w pe_w set_list ha) ?_
  unfold gIx at hf
  split at hf
  · rename_i c m1 e1
    split at hf
    · rename_i i m2 e2
      split at hf
      · rename_i ds hm
        split at hf
        · rename_i j hj
          cases hf
          refine ho.run rp er e1 _ fun F1 φ1 vo H1 n1 r1 => ?_
          refine hi.run n1.rep (er.mono n1.exF n1.pre) e2 _ fun F2 φ2 vi H2 n2 r2 => ?_
          have n := n1.trans n2
          cases r2
          have r1' := r1.mono n2.exF n2.pre
          cases r1' with
          | @cell _ a hp =>
            obtain ⟨_, o, ho2, vs, rfl, r3⟩ := n2.rep.cell _ _ _ hm (fun e => nomatch e) hp
            refine ⟨a, vs, i, j, rfl, rfl, ho2, by rw [← r3.len]; exact hj, ?_⟩
            have n3 := n2.rep.write (y := O.lst (ds.set j d)) (o := .lst (vs.set j v)) hm (fun e => nomatch e) hp (fun e => nomatch e) ⟨_, rfl, r3.set (rv.mono n.exF n.pre) j⟩
            exact q _ _ _ _ (n.trans n3) (er.mono n.exF n.pre) (But.refl _ _)
        · cases hf
      · cases hf
    · cases hf
  · cases hf⟩

/-! ### what a for walks -/
theorem it_list {F : Hp} {φ : List Addr} {a : Addr} {ds : List D} {vs : List V} {K : PySem.W.Frag} (h : SqL K F a vs) (r : VRs K F φ ds vs) : ItD K F φ (Itl K a) ds :=
  ⟨fun i H ex hi => by
    obtain ⟨v, h1, _⟩ := r.get (List.getElem?_eq_getElem hi)
    exact ⟨vs, v, Evl.ex_l ex h, h1⟩,
   fun i F1 φ1 m1 H x H' d rp ex pr hd hy => by
    obtain ⟨e, hy⟩ := hy
    subst e
    obtain ⟨v, h1, h2⟩ := r.get hd
    have := hy vs (Evl.ex_l (ex.trans rp.ex) h)
    rw [h1] at this
    cases this
    exact ⟨F1, Nxt.refl rp, h2.mono ex pr⟩,
   fun i H ex hi => ⟨vs, Evl.ex_l ex h, by rw [← r.len]; exact hi⟩⟩
theorem it_tup {F : Hp} {φ : List Addr} {a : Addr} {ds : List D} {vs : List V} {K : PySem.W.Frag} (h : SqT K F a vs) (r : VRs K F φ ds vs) : ItD K F φ (Itt K a) ds :=
  ⟨fun i H ex hi => by
    obtain ⟨v, h1, _⟩ := r.get (List.getElem?_eq_getElem hi)
    exact ⟨vs, v, Evl.ex_t ex h, h1⟩,
   fun i F1 φ1 m1 H x H' d rp ex pr hd hy => by
    obtain ⟨e, hy⟩ := hy
    subst e
    obtain ⟨v, h1, h2⟩ := r.get hd
    have := hy vs (Evl.ex_t (ex.trans rp.ex) h)
    rw [h1] at this
    cases this
    exact ⟨F1, Nxt.refl rp, h2.mono ex pr⟩,
   fun i H ex hi => ⟨vs, Evl.ex_t ex h, by rw [← r.len]; exact hi⟩⟩
def rngD (lo : Int) (n : Nat) : List D := (List.range n).map fun (i : Nat) => D.int (lo + (i : Int))
theorem rngD_len (lo : Int) (n : Nat) : (rngD lo n).length = n := by simp [rngD]
theorem rngD_get {lo : Int} {n i : Nat} {d : D} (h : (rngD lo n)[i]? = some d) : d = .int (lo + i) := by
  unfold rngD at h
  rw [List.getElem?_map] at h
  by_cases hi : i < n
  · rw [List.getElem?_range hi] at h
    cases h; rfl
  · rw [List.getElem?_eq_none (by simp; omega)] at h
    cases h
theorem it_rng {F : Hp} {φ : List Addr} {K : PySem.W.Frag} (lo : Int) (n : Nat) : ItD K F φ (Itr lo n) (rngD lo n) :=
  ⟨fun i H ex hi => by rw [rngD_len] at hi; exact hi,
   fun i F1 φ1 m1 H x H' d rp ex pr hd hy => by
    obtain ⟨e, hy⟩ := hy
    subst e; subst hy
    rw [rngD_get hd]
    exact ⟨F1, Nxt.refl rp, .int _⟩,
   fun i H ex hi => by rw [rngD_len] at hi; exact hi⟩
theorem it_str {F : Hp} {φ : List Addr} {K : PySem.W.Frag} (s : List Nat) : ItD K F φ (Its (S s)) (s.map fun c => .str [c]) :=
  ⟨fun i H ex hi => by
    have h : i < (S s).cps.size := by
      have := S_len s
      unfold Str.length at this
      rw [this]; simpa using hi
    exact h,
   fun i F1 φ1 m1 H x H' d rp ex pr hd hy => by
    obtain ⟨e, c, hc, hx⟩ := hy
    subst e; subst hx
    have h2 : s[i]? = some c := by
      have : (S s).cps[i]? = s[i]? := by
        rw [← Array.getElem?_toList, S_tl]
      rw [← this]; exact hc
    rw [List.getElem?_map, h2] at hd
    cases hd
    exact ⟨F1, Nxt.refl rp, .str [c]⟩,
   fun i H ex hi => by
    have h : (S s).cps.size ≤ i := by
      have := S_len s
      unfold Str.length at this
      rw [this]; simpa using hi
    exact h⟩
def aIt (f : EF) : AF := fun ρ m => match f ρ m with
  | some (.tup ds, m1) => some (ds, m1)
  | some (.lst ds, m1) => some (ds, m1)
  | some (.lsk ds, m1) => some (ds, m1)
  | some (.str s, m1) => some (s.map fun c => .str [c], m1)
  | _ => none
theorem ji_e (h : JE X e fe) : JI X tg e (aIt fe) := ⟨fun {F φ m H ρ σ ds m'} rp er hf R q => by
  unfold aIt at hf
  split at hf
  · rename_i ds m1 h1
    cases hf
    refine wi_of (pi_tup pe_w) (h.run rp er h1 _ fun F1 φ1 v H1 n1 r1 => ?_)
    cases r1 with
    | @tup a _ vs q1 rv => exact ⟨a, rfl, ⟨vs, Evl.ex_t n1.rep.ex q1⟩, q _ _ _ _ n1 (it_tup q1 rv)⟩
  · rename_i ds m1 h1
    cases hf
    refine wi_of (pi_list pe_w) (h.run rp er h1 _ fun F1 φ1 v H1 n1 r1 => ?_)
    cases r1 with
    | @lst a _ vs q1 rv => exact ⟨a, rfl, ⟨vs, SqL.of (n1.rep.ex _ _ q1)⟩, q _ _ _ _ n1 (it_list (SqL.of q1) rv)⟩
  · rename_i ds m1 h1
    cases hf
    refine wi_of (pi_list pe_w) (h.run rp er h1 _ fun F1 φ1 v H1 n1 r1 => ?_)
    cases r1 with
    | @lsk a _ vs q1 rv => exact ⟨a, rfl, ⟨vs, Evl.ex_l n1.rep.ex q1⟩, q _ _ _ _ n1 (it_list q1 rv)⟩
  · rename_i s m1 h1
    cases hf
    refine wi_of (pi_str pe_w) (h.run rp er h1 _ fun F1 φ1 v H1 n1 r1 => ?_)
    cases r1
    exact ⟨S s, rfl, q _ _ _ _ n1 (it_str s)⟩
  · cases hf⟩
def big62 (i : Int) : Bool := decide (-(4611686018427387904) ≤ i) && decide (i < 4611686018427387904)
theorem big62_ok {i : Int} (h : big62 i = true) : -(2 ^ 62) ≤ i ∧ i < 2 ^ 62 := by
  unfold big62 at h
  simp only [Bool.and_eq_true, decide_eq_true_eq] at h
  have e : (2 : Int) ^ 62 = 4611686018427387904 := by decide
  rw [e]; exact h
def aRng1 (f : EF) : AF := fun ρ m => match f ρ m with
  | some (.int i, m1) => if big62 i = true then some (rngD 0 i.toNat, m1) else none
  | _ => none
def aRng2 (f g : EF) : AF := fun ρ m => match f ρ m with
  | some (.int i, m1) => match g ρ m1 with
    | some (.int j, m2) => if (big62 i && big62 j) = true then some (rngD i (j - i).toNat, m2) else none
    | _ => none
  | _ => none
theorem ji_rng1 (h : JE X e fe) (hm : X.mg "range" = none) (hg : Gl X "range" := by rfl) (hs : starEach [e] X.env = [(false, eval e X.env)] := by rfl) : JI X tg (.Call (.Name "range" p) [e] [] pos) (aRng1 fe) := ⟨fun {F φ m H ρ σ ds m'} rp er hf R q => by
  unfold aRng1 at hf
  split at hf
  · rename_i i m1 h1
    split at hf
    · rename_i hb
      cases hf
      refine wi_of (pi_range1 hg hm pa_w hs) ?_
      refine (ja_cons (X := X) h ja_nil hs).run rp er (ds := [.int i]) (m' := m') ?_ _ fun F1 φ1 vs H1 n1 r1 => ?_
      · unfold aCons; rw [h1]; rfl
      · cases r1 with
        | cons r0 rr =>
          cases r0; cases rr
          exact ⟨i, rfl, (big62_ok hb).1, (big62_ok hb).2, q _ _ _ _ n1 (it_rng 0 _)⟩
    · cases hf
  · cases hf⟩
theorem ji_rng2 (ha : JE X a fa) (hb : JE X b fb) (hm : X.mg "range" = none) (hg : Gl X "range" := by rfl) (hs : starEach [a, b] X.env = [(false, eval a X.env), (false, eval b X.env)] := by rfl) (hs2 : starEach [b] X.env = [(false, eval b X.env)] := by rfl) :
    JI X tg (.Call (.Name "range" p) [a, b] [] pos) (aRng2 fa fb) := ⟨fun {F φ m H ρ σ ds m'} rp er hf R q => by
  unfold aRng2 at hf
  split at hf
  · rename_i i m1 h1
    split at hf
    · rename_i j m2 h2
      split at hf
      · rename_i hbb
        cases hf
        rw [Bool.and_eq_true] at hbb
        refine wi_of (pi_range2 hg hm pa_w hs hs2) ?_
        refine (ja_cons (X := X) ha (ja_cons hb ja_nil hs2) (by rw [hs, hs2])).run rp er (ds := [.int i, .int j]) (m' := m') ?_ _ fun F1 φ1 vs H1 n1 r1 => ?_
        · simp only [aCons, h1, h2, aNil]
        · cases r1 with
          | cons r0 rr =>
            cases rr with
            | cons r1 rr =>
              cases r0; cases r1; cases rr
              exact ⟨i, j, rfl, ⟨(big62_ok hbb.1).1, (big62_ok hbb.1).2, (big62_ok hbb.2).1, (big62_ok hbb.2).2⟩, q _ _ _ _ n1 (it_rng i _)⟩
      · cases hf
    · cases hf
  · cases hf⟩
end
end VI
end
section
namespace VI
open PySem PySem.Spec PyProof.Rows L2

section
variable {X : Cx} {a b c e f o tg : Expr} {es : List Expr} {pos p apos cpos : Pos} {fa fb fe ff fo fi : EF} {fr : AF} {x name : Str}

/-! ### built-in functions, types by name -/
def CB (X : Cx) (f : Value) (r : Mem → List D → Option D) : Prop :=
  ∀ {F φ m H ds d vs}, Rep X.K F φ m H → VRs X.K F φ ds vs → r m ds = some d → ∀ Q : VK, (∀ F' φ' v H', Nxt X.K F φ m H F' φ' m H' → VR X.K F' φ' d v → Q v H') → ∃ rr, CallR X f rr ∧ rr vs H Q
def eBlt (r : Mem → List D → Option D) (fr : AF) : EF := fun ρ m => match fr ρ m with
  | some (ds, m1) => match r m1 ds with
    | some d => some (d, m1)
    | none => none
  | none => none
theorem j_bltB {id : String} {r : Mem → List D → Option D} (hc : CB X (.builtin id) r) (hm : X.mg x = none) (hv : bootBuiltins x = some (.builtin id)) (ha : JA X (e :: es) fr) (hg : Gl X x := by rfl) (hn : x ≠ "__name__" := by decide)
    (hdb : (x == ("__debug__" : Str)) = false := by decide) (he : starEach (e :: es) X.env = (false, eval e X.env) :: starEach es X.env := by rfl) (hpl : (backTo pos (starEach es X.env)).any (·.1) = false := by rfl) :
    JE X (.Call (.Name x p) (e :: es) [] pos) (eBlt r fr) := ⟨fun {F φ m H ρ σ d m'} rp er hf Q q => by
  unfold eBlt at hf
  split at hf
  · rename_i ds m1 h1
    split at hf
    · rename_i d' h2
      cases hf
      refine we_of (pe_callB callr_w hg hm hv pa_w hn hdb he hpl) (ha.run rp er h1 _ fun F1 φ1 vs H1 n1 r1 => ?_)
      exact hc n1.rep r1 h2 Q fun F' φ' v H' n r => q _ _ _ _ (n1.trans n) r
    · cases hf
  · cases hf⟩
theorem j_bltT {T : String} {r : Mem → List D → Option D} (hc : CB X (.type T) r) (hm : X.mg x = none) (hv : bootBuiltins x = some (.type T)) (ha : JA X (e :: es) fr) (hg : Gl X x := by rfl) (hn : x ≠ "__name__" := by decide)
    (hdb : (x == ("__debug__" : Str)) = false := by decide) (he : starEach (e :: es) X.env = (false, eval e X.env) :: starEach es X.env := by rfl) (hpl : (backTo pos (starEach es X.env)).any (·.1) = false := by rfl) :
    JE X (.Call (.Name x p) (e :: es) [] pos) (eBlt r fr) := ⟨fun {F φ m H ρ σ d m'} rp er hf Q q => by
  unfold eBlt at hf
  split at hf
  · rename_i ds m1 h1
    split at hf
    · rename_i d' h2
      cases hf
      refine we_of (pe_callTy callr_w hg hm hv pa_w hn hdb he hpl) (ha.run rp er h1 _ fun F1 φ1 vs H1 n1 r1 => ?_)
      exact hc n1.rep r1 h2 Q fun F' φ' v H' n r => q _ _ _ _ (n1.trans n) r
    · cases hf
  · cases hf⟩
/-- a built-in type as a value -/
theorem j_ty {n : String} (hm : X.mg x = none) (hv : bootBuiltins x = some (.type n)) (hg : Gl X x := by rfl) (hn : x ≠ "__name__" := by decide) (hd : (x == ("__debug__" : Str)) = false := by decide) : JE X (.Name x pos) (eC (.ty n)) := ⟨fun rp er hf Q q => by
  cases hf
  exact we_of (pe_bltn (v := V.ty n) hg hm hv rfl hn hd) (q _ _ _ _ (Nxt.refl rp) (.ty n))⟩
theorem VRs.one {K F φ d vs} (r : VRs K F φ [d] vs) : ∃ v, vs = [v] ∧ VR K F φ d v := by
  cases r with
  | cons r0 rr => cases rr; exact ⟨_, rfl, r0⟩
theorem VRs.two {K F φ d1 d2 vs} (r : VRs K F φ [d1, d2] vs) : ∃ v w, vs = [v, w] ∧ VR K F φ d1 v ∧ VR K F φ d2 w := by
  cases r with
  | cons r0 rr =>
    obtain ⟨w, rfl, h⟩ := VRs.one rr
    exact ⟨_, _, rfl, r0, h⟩
def bLen : Mem → List D → Option D
  | _, [.str s] => if s.length ≤ 16777216 then some (.int s.length) else none
  | _, [.tup ds] => some (.int ds.length)
  | _, [.lst ds] => some (.int ds.length)
  | _, [.lsk ds] => some (.int ds.length)
  | m, [.cell c] => match m[c]? with
    | some (.lst ds) => some (.int ds.length)
    | some (.dct ds) => some (.int ds.length)
    | _ => none
  | _, _ => none
theorem KR.len {K F φ} : ∀ {ds vs}, KR K F φ ds vs → ds.length = vs.length
  | _, _, .nil => rfl
  | _, _, .cons _ r => by rw [List.length_cons, List.length_cons, KR.len r]
theorem cb_len : CB X (.builtin "len") bLen := by
  intro F φ m H ds d vs rp r h Q q
  unfold bLen at h
  split at h
  · split at h
    · rename_i hl
      cases h
      obtain ⟨v, rfl, r0⟩ := r.one
      cases r0
      refine ⟨_, call_len_str, _, rfl, by rw [S_len]; exact hl, ?_⟩
      rw [S_len]; exact same rp q (.int _)
    · cases h
  · cases h
    obtain ⟨v, rfl, r0⟩ := r.one
    cases r0 with
    | tup q1 rv => exact ⟨_, call_len_seq, _, _, rfl, .inr (Evl.ex_t rp.ex q1), by rw [← rv.len]; exact same rp q (.int _)⟩
  · cases h
    obtain ⟨v, rfl, r0⟩ := r.one
    cases r0 with
    | lst q1 rv => exact ⟨_, call_len_seq, _, _, rfl, .inl (SqL.of (rp.ex _ _ q1)), by rw [← rv.len]; exact same rp q (.int _)⟩
  · cases h
    obtain ⟨v, rfl, r0⟩ := r.one
    cases r0 with
    | lsk q1 rv => exact ⟨_, call_len_seq, _, _, rfl, .inl (Evl.ex_l rp.ex q1), by rw [← rv.len]; exact same rp q (.int _)⟩
  · obtain ⟨v, rfl, r0⟩ := r.one
    cases r0 with
    | cell hp =>
      split at h
      · rename_i hm
        cases h
        obtain ⟨_, o, ho, vs, rfl, rv⟩ := rp.cell _ _ _ hm (fun e => nomatch e) hp
        exact ⟨_, call_len_seq, _, _, rfl, .inl (SqL.of ho), by rw [← rv.len]; exact same rp q (.int _)⟩
      · rename_i hm
        cases h
        obtain ⟨_, o, ho, vs, rfl, rv⟩ := rp.cell _ _ _ hm (fun e => nomatch e) hp
        exact ⟨_, call_lenD, _, _, rfl, ho, by rw [← rv.len]; exact same rp q (.int _)⟩
      · cases h
  · cases h
def bAbs : Mem → List D → Option D
  | _, [.int i] => some (.int (if i < 0 then -i else i))
  | _, _ => none
theorem cb_abs : CB X (.builtin "abs") bAbs := by
  intro F φ m H ds d vs rp r h Q q
  unfold bAbs at h
  split at h
  · cases h
    obtain ⟨v, rfl, r0⟩ := r.one
    cases r0
    exact ⟨_, call_abs, _, rfl, same rp q (.int _)⟩
  · cases h
def bInt : Mem → List D → Option D
  | _, [.int i] => some (.int i)
  | _, [.bl b] => some (.int (if b then 1 else 0))
  | _, _ => none
theorem cb_int : CB X (.type "int") bInt := by
  intro F φ m H ds d vs rp r h Q q
  unfold bInt at h
  split at h
  · cases h
    obtain ⟨v, rfl, r0⟩ := r.one
    cases r0
    exact ⟨_, call_int1, .inl ⟨_, rfl, same rp q (.int _)⟩⟩
  · cases h
    obtain ⟨v, rfl, r0⟩ := r.one
    cases r0
    exact ⟨_, call_int1, .inr ⟨_, rfl, same rp q (.int _)⟩⟩
  · cases h
def bMax2 : Mem → List D → Option D
  | _, [.int i, .int j] => some (.int (if j > i then j else i))
  | _, _ => none
theorem cb_max2 (hc : X.calm = true) : CB X (.builtin "max") bMax2 := by
  intro F φ m H ds d vs rp r h Q q
  unfold bMax2 at h
  split at h
  · cases h
    obtain ⟨v, w, rfl, r0, r1⟩ := r.two
    cases r0; cases r1
    exact ⟨_, call_max2 hc, _, _, rfl, same rp q (.int _)⟩
  · cases h
def bMin2 : Mem → List D → Option D
  | _, [.int i, .int j] => some (.int (if j < i then j else i))
  | _, _ => none
theorem cb_min2 (hc : X.calm = true) : CB X (.builtin "min") bMin2 := by
  intro F φ m H ds d vs rp r h Q q
  unfold bMin2 at h
  split at h
  · cases h
    obtain ⟨v, w, rfl, r0, r1⟩ := r.two
    cases r0; cases r1
    exact ⟨_, call_min2 hc, _, _, rfl, same rp q (.int _)⟩
  · cases h
/-- the name of a value's type -/
def tyN (m : Mem) : D → Option String
  | .non => some "NoneType" | .bl _ => some "bool" | .int _ => some "int" | .str _ => some "str" | .tup _ => some "tuple" | .lst _ => some "list"
  | .cell c => match m[c]? with
    | some (.lst _) => some "list"
    | some (.dct _) => some "dict"
    | _ => none
  | _ => none
def subT (t n : String) : Bool := t == n || (t == "bool" && n == "int")
def bIsi : Mem → List D → Option D
  | m, [x, .ty n] => match tyN m x with
    | some t => if ["bool", "int", "str", "tuple", "list", "dict"].contains n = true then some (.bl (subT t n)) else none
    | none => none
  | _, _ => none
theorem tyN_ok {K F φ m H x vx t} (rp : Rep K F φ m H) (r : VR K F φ x vx) (h : tyN m x = some t) : TyX K H vx (.type t) ∧ t ∈ ["NoneType", "bool", "int", "str", "tuple", "list", "dict"] := by
  unfold tyN at h
  split at h
  · cases h; cases r; exact ⟨.base .non, by decide⟩
  · cases h; cases r; exact ⟨.base (.bl _), by decide⟩
  · cases h; cases r; exact ⟨.base (.int _), by decide⟩
  · cases h; cases r; exact ⟨.base (.str _), by decide⟩
  · cases h
    cases r with
    | tup q1 rv =>
      refine ⟨?_, by decide⟩
      rcases Evl.ex_t rp.ex q1 with (q | ⟨o, q⟩) | ⟨o, its, n, h1, h2, h3, _⟩
      · exact .base (.tup q)
      · exact .fTuple q
      · exact .kTuple h1 h2
  · cases h
    cases r with
    | lst q1 rv => exact ⟨.base (.lst (rp.ex _ _ q1)), by decide⟩
  · cases r with
    | cell hp =>
      split at h
      · rename_i hm
        cases h
        obtain ⟨_, o, ho, vs, rfl, rv⟩ := rp.cell _ _ _ hm (fun e => nomatch e) hp
        exact ⟨.base (.lst ho), by decide⟩
      · rename_i hm
        cases h
        obtain ⟨_, o, ho, vs, rfl, rv⟩ := rp.cell _ _ _ hm (fun e => nomatch e) hp
        exact ⟨.base (.dK ho), by decide⟩
      · cases h
  · cases h
theorem kit_all : ∀ t ∈ ["NoneType", "bool", "int", "str", "tuple", "list", "dict"], ∀ n ∈ ["bool", "int", "str", "tuple", "list", "dict"], kitB t n = some (subT t n) := by decide +kernel
theorem cb_isi : CB X (.builtin "isinstance") bIsi := by
  intro F φ m H ds d vs rp r h Q q
  unfold bIsi at h
  split at h
  · rename_i x n
    split at h
    · rename_i t ht
      split at h
      · rename_i hn
        cases h
        obtain ⟨v, w, rfl, r0, r1⟩ := r.two
        obtain ⟨ty, hmem⟩ := tyN_ok rp r0 ht
        cases r1
        exact ⟨_, call_isi, v, _, _, _, _, rfl, .ty n, ty, kit_ty (kit_all t hmem n (by simpa using hn)), same rp q (.bl _)⟩
      · cases h
    · cases h
  · cases h

/-! ### methods of texts -/
def MS (X : Cx) (id : String) (r : List Nat → Mem → List D → Option D) : Prop :=
  ∀ {F φ m H s ds d vs}, Rep X.K F φ m H → VRs X.K F φ ds vs → r s m ds = some d → ∀ Q : VK, (∀ F' φ' v H', Nxt X.K F φ m H F' φ' m H' → VR X.K F' φ' d v → Q v H') → ∃ rr, MtR X id rr ∧ rr (.str (S s)) vs H Q
def eMS (r : List Nat → Mem → List D → Option D) (fo : EF) (fr : AF) : EF := fun ρ m => match fo ρ m with
  | some (.str s, m1) => match fr ρ m1 with
    | some (ds, m2) => match r s m2 ds with
      | some d => some (d, m2)
      | none => none
    | none => none
  | _ => none
theorem j_mS {id : String} {r : List Nat → Mem → List D → Option D} (pa : PlainAttrs "str") (slot : Slot "str" name id) (hty : typeOf (.builtin id) = pure (.type "method_descriptor")) (hm : MS X id r) (ho : JE X o fo) (ha : JA X (e :: es) fr)
    (hbase : attributeBase o name X.env (eval o X.env) = eval o X.env := by rfl)
    (hfew : ((backTo cpos (starEach (e :: es) X.env)).all (fun x => !x.1) && (backToKw cpos (keywordEach [] X.env)).all (fun x => x.1.isSome)
      && decide ((e :: es).length + ([] : List Keyword).length + (if ([] : List Keyword).isEmpty then 0 else 1) < 30)) = true := by rfl)
    (hline : (apos.endLine == cpos.line) = true := by rfl) (hs : starEach (e :: es) X.env = (false, eval e X.env) :: starEach es X.env := by rfl) (hplain : (backTo cpos (starEach es X.env)).any (·.1) = false := by rfl) :
    JE X (.Call (.Attribute o name apos) (e :: es) [] cpos) (eMS r fo fr) := ⟨fun {F φ m H ρ σ d m'} rp er hf Q q => by
  refine we_of (pe_bm pa slot hty mtr_w pe_w pa_w hbase hfew hline hs hplain) ?_
  unfold eMS at hf
  split at hf
  · rename_i s m1 h1
    split at hf
    · rename_i ds m2 h2
      split at hf
      · rename_i d' h3
        cases hf
        refine ho.run rp er h1 _ fun F1 φ1 v H1 n1 r1 => ?_
        cases r1
        refine ⟨rfl, ha.run n1.rep (er.mono n1.exF n1.pre) h2 _ fun F2 φ2 vs H2 n2 r2 => ?_⟩
        exact hm n2.rep r2 h3 Q fun F' φ' v H' n r => q _ _ _ _ ((n1.trans n2).trans n) r
      · cases hf
    · cases hf
  · cases hf⟩
/-- .join(texts) -/
def toStrs : List D → Option (List (List Nat))
  | [] => some []
  | .str s :: r => match toStrs r with
    | some ss => some (s :: ss)
    | none => none
  | _ => none
theorem toStrs_eq : ∀ {ds : List D} {ss : List (List Nat)}, toStrs ds = some ss → ds = ss.map D.str
  | [], _, h => by cases h; rfl
  | .str s :: r, _, h => by
    unfold toStrs at h
    split at h
    · rename_i e
      cases h
      rw [toStrs_eq e]; rfl
    · cases h
  | .non :: _, _, h => by cases h
  | .bl _ :: _, _, h => by cases h
  | .int _ :: _, _, h => by cases h
  | .tup _ :: _, _, h => by cases h
  | .lst _ :: _, _, h => by cases h
  | .lsk _ :: _, _, h => by cases h
  | .cell _ :: _, _, h => by cases h
  | .ty _ :: _, _, h => by cases h
def joinD (s : List Nat) (ss : List (List Nat)) : List Nat := (Txt.join (S s) (ss.map S)).cps.toList
def sJoin (s : List Nat) : Mem → List D → Option D
  | _, [.lst ds] => match toStrs ds with
    | some ss => if (ss.map (·.length)).sum + ss.length * s.length ≤ 16777216 then some (.str (joinD s ss)) else none
    | none => none
  | m, [.cell c] => match m[c]? with
    | some (.lst ds) => match toStrs ds with
      | some ss => if (ss.map (·.length)).sum + ss.length * s.length ≤ 16777216 then some (.str (joinD s ss)) else none
      | none => none
    | _ => none
  | _, _ => none
theorem lens_S (ss : List (List Nat)) : ((ss.map S).map (·.length)).sum = (ss.map (·.length)).sum := by
  rw [List.map_map]
  have e : ((fun x : Str => x.length) ∘ S) = (fun x : List Nat => x.length) := by
    funext s
    exact S_len s
  rw [e]
theorem ms_join : MS X "str.join" sJoin := by
  intro F φ m H s ds d vs rp r h Q q
  have go : ∀ {p : Addr} {ws : List V} {es : List D} {ss : List (List Nat)}, toStrs es = some ss → VRs X.K F φ es ws → SqL X.K H p ws → (ss.map (·.length)).sum + ss.length * s.length ≤ 16777216 → d = .str (joinD s ss) → ∃ rr, MtR X "str.join" rr ∧ rr (.str (S s)) [.ref p] H Q := by
    intro p ws es ss e rv hs hl hd
    have e1 := toStrs_eq e
    subst e1
    have e2 := rv.strs_inv
    subst e2
    refine ⟨_, mt_join, S s, p, ss.map S, rfl, rfl, .inl hs, ?_, ?_⟩
    · rw [lens_S, List.length_map, S_len]; exact hl
    · have : (Txt.join (S s) (ss.map S)) = S (joinD s ss) := by unfold joinD; rw [S_mk]
      rw [this]
      subst hd
      exact same rp q (.str _)
  unfold sJoin at h
  split at h
  · split at h
    · rename_i es ss e
      split at h
      · rename_i hl
        cases h
        obtain ⟨v, rfl, r0⟩ := r.one
        cases r0 with
        | lst q1 rv => exact go e rv (SqL.of (rp.ex _ _ q1)) hl rfl
      · cases h
    · cases h
  · split at h
    · rename_i hm
      split at h
      · rename_i ss e
        split at h
        · rename_i hl
          cases h
          obtain ⟨v, rfl, r0⟩ := r.one
          cases r0 with
          | cell hp =>
            obtain ⟨_, o, ho, ws, rfl, rv⟩ := rp.cell _ _ _ hm (fun e => nomatch e) hp
            exact go e rv (SqL.of ho) hl rfl
        · cases h
      · cases h
    · cases h
  · cases h
/-- a rule of one text argument -/
def s1 (g : List Nat → List Nat → D) (s : List Nat) : Mem → List D → Option D
  | _, [.str t] => some (g s t)
  | _, _ => none
theorem ms_s1 {id : String} {g : List Nat → List Nat → D} {gv : Str → Str → V} (h : MtR X id (fun x xs H Q => ∃ a b, x = .str a ∧ xs = [.str b] ∧ Q (gv a b) H)) (hg : ∀ K F φ s t, VR K F φ (g s t) (gv (S s) (S t))) : MS X id (s1 g) := by
  intro F φ m H s ds d vs rp r hh Q q
  unfold s1 at hh
  split at hh
  · cases hh
    obtain ⟨v, rfl, r0⟩ := r.one
    cases r0
    exact ⟨_, h, _, _, rfl, rfl, same rp q (hg _ _ _ _ _)⟩
  · cases hh
def startsD (s t : List Nat) : Bool := Txt.startswith (S s) (S t)
theorem ms_startswith : MS X "str.startswith" (s1 fun s t => .bl (startsD s t)) := ms_s1 mt_startswith fun _ _ _ _ _ => .bl _
/-- .bit_length() -/
def eBits (fo : EF) : EF := fun ρ m => match fo ρ m with
  | some (.int i, m1) => some (.int (Builtin.Int.intBits i : Nat), m1)
  | _ => none
theorem j_bits (ho : JE X o fo) (hbase : attributeBase o "bit_length" X.env (eval o X.env) = eval o X.env := by rfl) (hline : (apos.endLine == pos.line) = true := by rfl) : JE X (.Call (.Attribute o "bit_length" apos) [] [] pos) (eBits fo) := ⟨fun {F φ m H ρ σ d m'} rp er hf Q q => by
  refine we_of (pe_bits pe_w hbase hline) ?_
  unfold eBits at hf
  split at hf
  · rename_i i m1 h1
    cases hf
    refine ho.run rp er h1 _ fun F1 φ1 v H1 n1 r1 => ?_
    cases r1
    exact ⟨i, rfl, q _ _ _ _ n1 (.int _)⟩
  · cases hf⟩
/-- xs.append(e), xs a cell -/
def eApp (fo fe : EF) : EF := fun ρ m => match fo ρ m with
  | some (.cell c, m1) => match m1[c]? with
    | some (.lst _) => match fe ρ m1 with
      | some (d, m2) => match m2[c]? with
        | some (.lst ds) => if ds.length < 16777216 then some (.non, m2.set c (.lst (ds ++ [d]))) else none
        | _ => none
      | none => none
    | _ => none
  | _ => none
theorem j_app (ho : JE X o fo) (he : JE X e fe) (hbase : attributeBase o "append" X.env (eval o X.env) = eval o X.env := by rfl)
    (hfew : ((backTo cpos (starEach [e] X.env)).all (fun x => !x.1) && (backToKw cpos (keywordEach [] X.env)).all (fun x => x.1.isSome)
      && decide ([e].length + ([] : List Keyword).length + (if ([] : List Keyword).isEmpty then 0 else 1) < 30)) = true := by rfl)
    (hline : (apos.endLine == cpos.line) = true := by rfl) (hs : starEach [e] X.env = (false, eval e X.env) :: starEach [] X.env := by rfl) (hplain : (backTo cpos (starEach [] X.env)).any (·.1) = false := by rfl) :
    JE X (.Call (.Attribute o "append" apos) [e] [] cpos) (eApp fo fe) := ⟨fun {F φ m H ρ σ d m'} rp er hf Q q => by
  refine we_of (pe_bm PySem.F.plainAttrs_list PySem.F.slot_list_append PySem.F.type_list_append mt_append pe_w pa_w hbase hfew hline hs hplain) ?_
  unfold eApp at hf
  split at hf
  · rename_i c m1 h1
    split at hf
    · rename_i ds0 hm0
      split at hf
      · rename_i d1 m2 h2
        split at hf
        · rename_i ds hm
          split at hf
          · rename_i hl
            cases hf
            refine ho.run rp er h1 _ fun F1 φ1 v H1 n1 r1 => ?_
            cases r1 with
            | @cell _ a hp =>
              obtain ⟨_, o1, ho1, vs1, rfl, rv1⟩ := n1.rep.cell _ _ _ hm0 (fun e => nomatch e) hp
              refine ⟨.inl ⟨rfl, _, SqL.of ho1⟩, ?_⟩
              refine (ja_cons (X := X) he ja_nil hs).run n1.rep (er.mono n1.exF n1.pre) (ds := [d1]) (m' := m2) ?_ _ fun F2 φ2 vs H2 n2 r2 => ?_
              · simp only [aCons, h2, aNil]
              · obtain ⟨vy, rfl, ry⟩ := r2.one
                have hp2 := n2.pre _ _ hp
                obtain ⟨_, o2, ho2, vs2, rfl, rv2⟩ := n2.rep.cell _ _ _ hm (fun e => nomatch e) hp2
                refine ⟨a, vs2, vy, rfl, rfl, ho2, by rw [← rv2.len]; exact hl, ?_⟩
                have n3 := n2.rep.write (y := O.lst (ds ++ [d1])) (o := .lst (vs2 ++ [vy])) hm (fun e => nomatch e) hp2 (fun e => nomatch e) ⟨_, rfl, rv2.app (.cons ry .nil)⟩
                exact q _ _ _ _ ((n1.trans n2).trans n3) .non
          · cases hf
        · cases hf
      · cases hf
    · cases hf
  · cases hf⟩
end
end VI
end
section
namespace VI
open PySem PySem.Spec PyProof.Rows L2

def oLt : Mem → D → D → Option D := cI fun i j => decide (i < j)
def oLe : Mem → D → D → Option D := cI fun i j => decide (i ≤ j)
def oGt : Mem → D → D → Option D := cI fun i j => decide (j < i)
def oGe : Mem → D → D → Option D := cI fun i j => decide (j ≤ i)
def fuel : Nat := 10000000
def bRetN : BF := fun _ m => some (.rt .non, m)
section
variable {X : Cx} {a b c e f o tg elt iter : Expr} {es ifs : List Expr} {pos p apos cpos : Pos} {fa fb fc fe ff fo fi : EF} {fr it : AF} {x name : Str} {g : GF} {ws : List Nat} {tc : TF}
theorem js_retN : JS X (.Return none pos) bRetN := ⟨fun rp er hf D q => by
  cases hf
  exact ws_of ps_retN (q _ _ _ _ (Nxt.refl rp) .non)⟩
def ioAdd : Mem → D → D → Option D
  | _, .int i, .int j => some (.int (i + j))
  | _, .str s, .str t => if s.length + t.length ≤ 16777216 then some (.str (s ++ t)) else none
  | _, _, _ => none
theorem iod_add : OD X (inplaceOp .Add) ioAdd := by
  intro F φ m H x y d vx vy rp rx ry h Q q
  unfold ioAdd at h
  split at h
  · cases h; cases rx; cases ry
    exact ⟨_, iop_add, _, _, rfl, rfl, same rp q (.int _)⟩
  · split at h
    · rename_i hl
      cases h; cases rx; cases ry
      refine ⟨_, iop_add_str, _, _, rfl, rfl, ?_, ?_⟩
      · rw [S_len, S_len]; exact hl
      · rw [S_app]; exact same rp q (.str _)
    · cases h
  · cases h
theorem iod_sub : OD X (inplaceOp .Sub) oSub := by
  intro F φ m H x y d vx vy rp rx ry h Q q
  unfold oSub at h
  split at h
  · cases h; cases rx; cases ry
    exact ⟨_, iop_sub, _, _, rfl, rfl, same rp q (.int _)⟩
  · cases h
/-- a chain as a test -/
theorem jt_chain {op op' : CmpOp} {r r' : Mem → D → D → Option D} (ho : OD X (compareOp op) r) (ho' : OD X (compareOp op') r') (ha : JE X a fa) (hb : JE X b fb) (hc : JE X c fc) (hm : lastMarks [op, op'] [b, c] = false := by with_unfolding_all rfl) :
    JT X (.Compare a [op, op'] [b, c] pos) (tV (eChain r r' fa fb fc)) := ⟨fun {F φ m H ρ σ bb m'} rp er hf Q q => by
  refine wt_of (pt_chain opr_w opr_w pe_w pe_w pe_w hm) ?_
  unfold tV at hf
  split at hf
  · rename_i b' m1' h0
    cases hf
    have hf := h0
    unfold eChain at hf
    split at hf
    · rename_i x m1 h1
      split at hf
      · rename_i y m2 h2
        refine ha.run rp er h1 _ fun F1 φ1 vx H1 n1 r1 => ?_
        refine hb.run n1.rep (er.mono n1.exF n1.pre) h2 _ fun F2 φ2 vy H2 n2 r2 => ?_
        split at hf
        · rename_i h3
          split at hf
          · rename_i z m3 h4
            split at hf
            · rename_i d' h5
              cases hf
              refine ho n2.rep (r1.mono n2.exF n2.pre) r2 h3 _ fun F3 φ3 v3 H3 n3 r3 => ?_
              cases r3
              refine ⟨true, rfl, ?_⟩
              rw [if_pos rfl]
              refine hc.run n3.rep (((er.mono n1.exF n1.pre).mono n2.exF n2.pre).mono n3.exF n3.pre) h4 _ fun F4 φ4 vz H4 n4 r4 => ?_
              refine ho' n4.rep ((r2.mono n3.exF n3.pre).mono n4.exF n4.pre) r4 h5 _ fun F' φ' v H' n' r' => ?_
              cases r'
              exact ⟨_, rfl, q _ _ _ ((((n1.trans n2).trans n3).trans n4).trans n')⟩
            · cases hf
          · cases hf
        · rename_i h3
          cases hf
          refine ho n2.rep (r1.mono n2.exF n2.pre) r2 h3 _ fun F3 φ3 v3 H3 n3 r3 => ?_
          cases r3
          refine ⟨false, rfl, ?_⟩
          rw [if_neg Bool.false_ne_true]
          exact ⟨_, rfl, q _ _ _ ((n1.trans n2).trans n3)⟩
        · cases hf
      · cases hf
    · cases hf
  · cases hf⟩
/-! ### dicts -/
def valD (kvs : List (Key × D)) (k : Key) : Option D := (kvs.find? fun kv => decide (kv.1 = k)).map (·.2)
def putKD (kvs : List (Key × D)) (k : Key) (v : D) : List (Key × D) := if (kvs.any fun kv => decide (kv.1 = k)) = true then kvs.map (fun kv => if kv.1 = k then (kv.1, v) else kv) else kvs ++ [(k, v)]
theorem KR.val {K F φ} {k : Key} : ∀ {ds vs}, KR K F φ ds vs → (∀ d, valD ds k = some d → ∃ v, valV vs k = some v ∧ VR K F φ d v) ∧ (valD ds k = none → valV vs k = none)
  | _, _, .nil => ⟨fun d h => (by cases h), fun _ => rfl⟩
  | _, _, .cons (k := k') (d := d') (v := v') (ds := ds) (vs := vs) h r => by
    obtain ⟨q1, q2⟩ := KR.val (k := k) r
    unfold valD valV at q1 q2 ⊢
    by_cases e : k' = k
    · refine ⟨fun d hd => ?_, fun hd => ?_⟩
      · simp only [List.find?_cons, e, decide_true, Option.map_some] at hd ⊢
        cases hd
        exact ⟨v', rfl, h⟩
      · simp only [List.find?_cons, e, decide_true, Option.map_some] at hd
        cases hd
    · refine ⟨fun d hd => ?_, fun hd => ?_⟩
      · simp only [List.find?_cons, e, decide_false] at hd ⊢
        exact q1 d hd
      · simp only [List.find?_cons, e, decide_false] at hd ⊢
        exact q2 hd
theorem KR.any {K F φ} {k : Key} : ∀ {ds vs}, KR K F φ ds vs → (ds.any fun kv => decide (kv.1 = k)) = (vs.any fun kv => decide (kv.1 = k))
  | _, _, .nil => rfl
  | _, _, .cons _ r => by rw [List.any_cons, List.any_cons, KR.any r]
theorem KR.app {K F φ} : ∀ {ds vs es ws}, KR K F φ ds vs → KR K F φ es ws → KR K F φ (ds ++ es) (vs ++ ws)
  | _, _, _, _, .nil, h => h
  | _, _, _, _, .cons h r, g => .cons h (KR.app r g)
theorem KR.mapput {K F φ} {k : Key} {d : D} {v : V} (h : VR K F φ d v) : ∀ {ds vs}, KR K F φ ds vs → KR K F φ (ds.map (fun kv => if kv.1 = k then (kv.1, d) else kv)) (vs.map (fun kv => if kv.1 = k then (kv.1, v) else kv))
  | _, _, .nil => .nil
  | _, _, .cons (k := k') h0 r => by
    rw [List.map_cons, List.map_cons]
    by_cases e : k' = k
    · rw [if_pos e, if_pos e]; exact .cons h (KR.mapput h r)
    · rw [if_neg e, if_neg e]; exact .cons h0 (KR.mapput h r)
theorem KR.put {K F φ} {k : Key} {d : D} {v : V} {ds vs} (r : KR K F φ ds vs) (h : VR K F φ d v) : KR K F φ (putKD ds k d) (putK vs k v) := by
  unfold putKD putK
  rw [r.any]
  split
  · exact r.mapput h
  · exact r.app (.cons h .nil)
def mergeD (kvs : List (Key × D)) (more : List (Key × D)) : List (Key × D) := more.foldl (fun acc kv => putKD acc kv.1 kv.2) kvs
theorem KR.merge {K F φ} : ∀ {more ms ds vs}, KR K F φ more ms → KR K F φ ds vs → KR K F φ (mergeD ds more) (mergeK vs ms)
  | _, _, _, _, .nil, h => h
  | _, _, _, _, .cons h r, g => by
    unfold mergeD mergeK
    rw [List.foldl_cons, List.foldl_cons]
    exact KR.merge r (g.put h)
theorem toKey_ok {K F φ} {d : D} {v : V} {k : Key} (r : VR K F φ d v) (h : toKey d = some k) : v = kV k := by
  cases r <;> (unfold toKey at h; first | (cases h; rfl) | cases h)
abbrev DFn := Env → Mem → Option (List (Key × D) × Mem)
def dNil : DFn := fun _ m => some ([], m)
def dCons (fk fv : EF) (r : DFn) : DFn := fun ρ m => match fk ρ m with
  | some (x, m1) => match toKey x with
    | some k => match fv ρ m1 with
      | some (y, m2) => match r ρ m2 with
        | some (ps, m3) => some ((k, y) :: ps, m3)
        | none => none
      | none => none
    | none => none
  | none => none
def eDict (r : DFn) : EF := fun ρ m => match r ρ (m ++ [.dct []]) with
  | some (ps, m1) => match m1[m.length]? with
    | some (.dct []) => if ps.length ≤ 15 then some (.cell m.length, m1.set m.length (.dct (mergeD [] ps))) else none
    | _ => none
  | none => none
structure JD (X : Cx) (keys : List (Option Expr)) (values : List Expr) (trs : List (TE × TE)) (f : DFn) : Prop where
  pps : ∀ pos, PPs X pos keys values trs
  all : keys.all (·.isSome) = true
  len : keys.length = values.length
  run : ∀ {F φ m H ρ σ ps m'}, Rep X.K F φ m H → EnvR X.K F φ ρ σ → f ρ m = some (ps, m') → ∀ Q : List (V × V) → Hp → Prop, (∀ F' φ' kvs H', Nxt X.K F φ m H F' φ' m' H' → KR X.K F' φ' ps kvs → Q (kvs.map fun kv => (kV kv.1, kv.2)) H') → tPairs trs σ H Q
theorem jd_nil : JD X [] [] [] dNil := ⟨fun _ => pps_nil, rfl, rfl, fun rp er hf Q q => by
  cases hf
  exact q _ _ _ _ (Nxt.refl rp) .nil⟩
theorem jd_cons {k v : Expr} {fk fv : EF} {ks : List (Option Expr)} {vs : List Expr} {trs : List (TE × TE)} {r : DFn} (hk : JE X k fk) (hv : JE X v fv) (hr : JD X ks vs trs r) : JD X (some k :: ks) (v :: vs) ((WE X k, WE X v) :: trs) (dCons fk fv r) :=
  ⟨fun pos => pps_cons pe_w pe_w (hr.pps pos), by rw [List.all_cons, hr.all]; rfl, by rw [List.length_cons, List.length_cons, hr.len], fun {F φ m H ρ σ ps m'} rp er hf Q q => by
    unfold dCons at hf
    split at hf
    · rename_i x m1 h1
      split at hf
      · rename_i key hkey
        split at hf
        · rename_i y m2 h2
          split at hf
          · rename_i ps2 m3 h3
            cases hf
            show WE X k σ H fun x H1 => WE X v σ H1 fun y H2 => tPairs trs σ H2 fun ps H3 => Q ((x, y) :: ps) H3
            refine hk.run rp er h1 _ fun F1 φ1 vx H1 n1 r1 => ?_
            have er1 := er.mono n1.exF n1.pre
            refine hv.run n1.rep er1 h2 _ fun F2 φ2 vy H2 n2 r2 => ?_
            refine hr.run n2.rep (er1.mono n2.exF n2.pre) h3 _ fun F3 φ3 kvs H3 n3 r3 => ?_
            rw [toKey_ok r1 hkey]
            exact q _ _ ((key, vy) :: kvs) _ ((n1.trans n2).trans n3) (.cons (r2.mono n3.exF n3.pre) r3)
          · cases hf
        · cases hf
      · cases hf
    · cases hf⟩
theorem j_dict {keys : List (Option Expr)} {values : List Expr} {trs : List (TE × TE)} {r : DFn} (h : JD X keys values trs r) (h0 : keys ≠ [] := by exact fun e => nomatch e) (h15 : keys.length ≤ 15 := by decide) : JE X (.Dict keys values pos) (eDict r) := ⟨fun {F φ m H ρ σ d m'} rp er hf Q q => by
  refine we_of (pe_disp (h.pps pos) h.all h.len h0 h15) fun p hp => ?_
  unfold eDict at hf
  split at hf
  · rename_i ps m1 h1
    split at hf
    · rename_i hm
      split at hf
      · rename_i hl
        cases hf
        have n0 := rp.alloc (x := O.dct []) (o := .dK []) hp (fun e => nomatch e) ⟨[], rfl, .nil⟩
        refine h.run n0.rep (er.mono n0.exF n0.pre) h1 _ fun F1 φ1 kvs H1 n1 r1 => ?_
        have hc0 : (φ ++ [p])[m.length]? = some p := by
          rw [← rp.len, List.getElem?_append_right (Nat.le_refl _)]; simp
        have hc1 := n1.pre _ _ hc0
        obtain ⟨_, o1, ho1, vs1, rfl, rv1⟩ := n1.rep.cell _ _ _ hm (fun e => nomatch e) hc1
        cases rv1
        have hkl : kvs.length ≤ 15 := by rw [← r1.len]; exact hl
        refine ⟨ho1, kvs, rfl, hkl, ?_⟩
        have n2 := n1.rep.write (y := O.dct (mergeD [] ps)) (o := .dK (mergeK [] kvs)) hm (fun e => nomatch e) hc1 (fun e => nomatch e) ⟨_, rfl, KR.merge r1 .nil⟩
        exact q _ _ _ _ ((n0.trans n1).trans n2) (.cell hc1)
      · cases hf
    · cases hf
  · cases hf⟩
def eDict0 : EF := fun _ m => some (.cell m.length, m ++ [.dct []])
theorem j_dict0 : JE X (.Dict [] [] pos) eDict0 := ⟨fun {F φ m H ρ σ d m'} rp er hf Q q => by
  refine we_of pe_dnewK fun p hp => ?_
  cases hf
  have n0 := rp.alloc (x := O.dct []) (o := .dK []) hp (fun e => nomatch e) ⟨[], rfl, .nil⟩
  refine q _ _ _ _ n0 (.cell ?_)
  rw [← rp.len, List.getElem?_append_right (Nat.le_refl _)]; simp⟩
def eGet2 (fo fk fx : EF) : EF := fun ρ m => match fo ρ m with
  | some (.cell c, m1) => match m1[c]? with
    | some (.dct _) => match fk ρ m1 with
      | some (x, m2) => match toKey x with
        | some k => match fx ρ m2 with
          | some (y, m3) => match m3[c]? with
            | some (.dct kvs) => some ((valD kvs k).getD y, m3)
            | _ => none
          | none => none
        | none => none
      | none => none
    | _ => none
  | _ => none
theorem j_get2 (hu : X.A.units + 1 < cLine) (ho : JE X o fo) (he : JE X e fe) (hf' : JE X f ff) (hbase : attributeBase o "get" X.env (eval o X.env) = eval o X.env := by rfl)
    (hfew : ((backTo cpos (starEach [e, f] X.env)).all (fun x => !x.1) && (backToKw cpos (keywordEach [] X.env)).all (fun x => x.1.isSome) && decide (([e, f] : List Expr).length + ([] : List Keyword).length + (if ([] : List Keyword).isEmpty then 0 else 1) < 30)) = true := by rfl)
    (hline : (apos.endLine == cpos.line) = true := by rfl) (htr : backTo cpos (starEach [e, f] X.env) = [(false, eval e X.env), (false, eval f X.env)] := by rfl) :
    JE X (.Call (.Attribute o "get" apos) [e, f] [] cpos) (eGet2 fo fe ff) := ⟨fun {F φ m H ρ σ d m'} rp er hf Q q => by
  refine we_of (pe_dget2 hu pe_w pe_w pe_w ⟨hbase, hfew, hline, htr⟩) ?_
  unfold eGet2 at hf
  split at hf
  · rename_i c m1 h1
    split at hf
    · rename_i kv0 hm0
      split at hf
      · rename_i x m2 h2
        split at hf
        · rename_i k hk
          split at hf
          · rename_i y m3 h3
            split at hf
            · rename_i kvs hm
              cases hf
              refine ho.run rp er h1 _ fun F1 φ1 v H1 n1 r1 => ?_
              cases r1 with
              | @cell _ a hp =>
                obtain ⟨_, o1, ho1, vs1, rfl, rv1⟩ := n1.rep.cell _ _ _ hm0 (fun e => nomatch e) hp
                have er1 := er.mono n1.exF n1.pre
                refine ⟨a, rfl, .inl ⟨vs1, .inl ho1⟩, he.run n1.rep er1 h2 _ fun F2 φ2 vy H2 n2 r2 => ?_⟩
                refine hf'.run n2.rep (er1.mono n2.exF n2.pre) h3 _ fun F3 φ3 vz H3 n3 r3 => ?_
                have hp3 := n3.pre _ _ (n2.pre _ _ hp)
                obtain ⟨_, o3, ho3, vs3, rfl, rv3⟩ := n3.rep.cell _ _ _ hm (fun e => nomatch e) hp3
                obtain ⟨q1, q2⟩ := rv3.val (k := k)
                have n := (n1.trans n2).trans n3
                refine ⟨valV vs3 k, .inl ⟨vs3, k, .inl ho3, toKey_ok r2 hk, rfl⟩, ?_⟩
                cases hv : valD kvs k with
                | none =>
                  rw [q2 hv]
                  rw [hv] at q
                  exact q _ _ _ _ n r3
                | some d1 =>
                  obtain ⟨w1, hw1, rw1⟩ := q1 d1 hv
                  rw [hw1]
                  rw [hv] at q
                  exact q _ _ _ _ n rw1
            · cases hf
          · cases hf
        · cases hf
      · cases hf
    · cases hf
  · cases hf⟩
end
end VI
end
section
namespace VI
open PySem PySem.Spec PyProof.Rows L2
section
variable {P : Program} {w : World} {K : PySem.W.Frag} {mg : Str → Option Value} {base : Heap}
/-- a def's body, wherever it runs -/
abbrev Body (P : Program) (w : World) (K : PySem.W.Frag) (mg : Str → Option Value) (base : Heap) (k : Nat) (N : List Str) (qual : Str) (st : Stmt) (b : BF) : Prop :=
  ∀ (f : Addr) (cdv : Value) (A : Around) (outer : List PySem.Env) (s : Shared) (H : Hp) (E : XK), Room k (A.deeper (envOfC qual (defScope st) s.heap.objs.size f cdv)) → JB (cxOf CX0 P w K mg base N qual (defScope st) f cdv A outer s H E).nox (defBody st) b
theorem Fn.of {x qual : Str} {st : Stmt} {N ps : List Str} {k : Nat} {b : BF} (D : ∃ f fd, Fun K x qual st f fd ∧ mg x = some (.ref f)) (S : FnScope N ps (defScope st))
    (bn : ∀ (kV doc pm : Value) (an : Option Addr) (cdv ct : Value) (us : List Value), us.length = ps.length → bindArgs (PySem.W.fnOf x qual (defArgs st) (defBody st) (defScope st) .none kV doc pm an cdv ct) ⟨us, []⟩ = pure (ps.zip us))
    (body : Body P w K mg base k N qual st b) : Fn P w K mg base (k + 1) x ps (fnD ps.length N.length b) := by
  obtain ⟨f, fd, F, gm⟩ := D
  exact ⟨f, fd, okD F S (body f), gm, F.kp, F.binds bn⟩
theorem FnK.of {x qual : Str} {st : Stmt} {N ps : List Str} {k : Nat} {b : BF} (D : ∃ f fd, Fun K x qual st f fd ∧ mg x = some (.ref f)) (S : FnScope N ps (defScope st))
    (bn : ∀ (kV doc pm : Value) (an : Option Addr) (cdv ct : Value) (us : List Value), us.length = ps.length → bindArgs (PySem.W.fnOf x qual (defArgs st) (defBody st) (defScope st) .none kV doc pm an cdv ct) ⟨us, []⟩ = pure (ps.zip us))
    (bk : ∀ (kV doc pm : Value) (an : Option Addr) (cdv ct : Value) (us : List Value), us.length = ps.length → bindArgs (PySem.W.fnOf x qual (defArgs st) (defBody st) (defScope st) .none kV doc pm an cdv ct) ⟨[], ps.zip us⟩ = pure (ps.zip us))
    (body : Body P w K mg base k N qual st b) : FnK P w K mg base (k + 1) x ps (fnD ps.length N.length b) := by
  obtain ⟨f, fd, F, gm⟩ := D
  refine ⟨f, fd, okD F S (body f), gm, F.kp, ?_⟩
  obtain ⟨oc, od, kV, doc, pm, an, cdv, ct, osl, rfl, lk, hcd⟩ := F.ex
  exact fun us hl => bk kV doc pm an cdv ct us hl
end
end VI
end
section
namespace VI
open PySem PySem.Spec PyProof.Rows L2
def spLaw (K : PySem.W.Frag) : Sp := fun vs H Q _ => ∃ (a : Addr) (ns : List Int), vs = [.ref a] ∧ SqL K H a (ns.map V.int) ∧ ns.length ≤ 63 ∧ ∀ H', Q (.bl true) H'
theorem law_end {P : Program} {w : World} {K : PySem.W.Frag} {mg : Str → Option Value} {fa : Addr} {st : Stmt} {N : List Str} {k : Nat} {b : BF} (hfa : mg "law" = some (.ref fa)) (Df : ∃ f fd, Fun K "law" "law" st f fd ∧ mg "law" = some (.ref f))
    (S : FnScope N ["script"] (defScope st))
    (bn : ∀ (kV doc pm : Value) (an : Option Addr) (cdv ct : Value) (us : List Value), us.length = 1 → bindArgs (PySem.W.fnOf "law" "law" (defArgs st) (defBody st) (defScope st) .none kV doc pm an cdv ct) ⟨us, []⟩ = pure ((["script"] : List Str).zip us))
    (body : ∀ base, K.In base → base.Ns mainGlobals mg → Body P w K mg base k N "law" st b)
    (main : ∀ ns : List Int, ns.length ≤ 63 → ∃ m', fnD 1 N.length b [.lsk (ns.map D.int)] [] = some (.bl true, m')) :
    ∃ fd : FuncData, (∀ (s : Shared) (u : Value), BindsTo s fd ⟨[u], []⟩ [("script", u)]) ∧ ∀ base : Heap, K.In base → base.Ns mainGlobals mg → FnOk P w K mg base CX0 (k + 1) fa fd ["script"] (spLaw K) := by
  obtain ⟨f, fd, F, gm⟩ := Df
  rw [hfa] at gm
  cases gm
  refine ⟨fd, fun s u => ?_, fun base h1 h2 => ?_⟩
  · obtain ⟨oc, od, kV, doc, pm, an, cdv, ct, osl, rfl, lk, hcd⟩ := F.ex
    exact .of_eq (bn kV doc pm an cdv ct [u] rfl)
  · refine (okD F S (body base h1 h2 fa)).imp fun vs H Q E h => ?_
    obtain ⟨a, ns, rfl, hs, hl, q⟩ := h
    obtain ⟨m', hm⟩ := main ns hl
    refine ⟨H, [], [], [.lsk (ns.map D.int)], .bl true, m', ⟨rfl, Evl.Ex.refl _, fun i o a h => by simp at h, fun i j o o' a h => by simp at h⟩, .cons (.lsk hs (VRs.ints ns)) .nil, hm, fun F' φ' v H' n r => ?_⟩
    cases r
    exact q H'
/-! constants of the top -/
section
variable {K : PySem.W.Frag} {h : Heap} {mg : Str → Option Value}
/-- a value of the written part, seen as a value that never changes -/
def CV (K : PySem.W.Frag) (d : D) (u : Value) : Prop := ∃ v, RelV v u ∧ ∀ F φ, VR K F φ d v
def CVs (K : PySem.W.Frag) (ds : List D) (us : List Value) : Prop := ∃ vs, Vals vs us ∧ ∀ F φ, VRs K F φ ds vs
theorem cv_int (i : Int) (t : Tok) : CV K (.int i) (.int i t) := ⟨.int i, ⟨t, rfl⟩, fun _ _ => .int i⟩
theorem cv_str {x : Str} {l : List Nat} {t : Tok} (e : x.cps.toList = l) : CV K (.str l) (.str x t) := by
  subst e
  refine ⟨.str x, ⟨t, rfl⟩, fun _ _ => ?_⟩
  have e : (V.str x) = V.str (S x.cps.toList) := by rw [S_mk]
  rw [e]
  exact .str _
theorem cv_non : CV K .non .none := ⟨.non, rfl, fun _ _ => .non⟩
theorem cv_bl (b : Bool) : CV K (.bl b) (.bool b) := ⟨.bl b, rfl, fun _ _ => .bl b⟩
theorem cvs_nil : CVs K [] [] := ⟨[], .nil, fun _ _ => .nil⟩
theorem cvs_cons {d : D} {ds : List D} {u : Value} {us : List Value} (h : CV K d u) (r : CVs K ds us) : CVs K (d :: ds) (u :: us) := by
  obtain ⟨v, h1, h2⟩ := h
  obtain ⟨vs, r1, r2⟩ := r
  exact ⟨v :: vs, .cons h1 r1, fun F φ => .cons (h2 F φ) (r2 F φ)⟩
theorem cv_tup {a : Addr} {dd : Option Addr} {its : Array Value} {n : Nat} {sl : Array (Option Value)} {ds : List D} (l : K.lookup a = some ⟨.type "tuple", dd, .seq its n, sl⟩) (r : CVs K ds its.toList) (hz : its.size ≤ 100000) : CV K (.tup ds) (.ref a) := by
  obtain ⟨vs, r1, r2⟩ := r
  exact ⟨.ref a, rfl, fun F φ => .tup (.inr ⟨_, its, n, l, rfl, rfl, Evl.sz_of hz, r1⟩) (r2 F φ)⟩
theorem glob_of {x : Str} {u : Value} {d : D} (X : K.In h) (G : h.Ns mainGlobals mg) (e : PySem.W.nsIn K mainGlobals x = some (some u)) (c : CV K d u) : GlobD K mg x d := by
  obtain ⟨v, h1, h2⟩ := c
  exact ⟨u, v, PySem.W.mg_of X G e, h1, h2⟩
end
end VI
end
section
namespace VI
open PySem PySem.Spec PyProof.Rows L2
/-- a name is set: what was wanted of it, and the names behind it -/
theorem set_both {M : Model} {Γ : PySem.Ctx} {E : Value → Pos → Shared → Prop} {p : Pos} {s : Shared} {a : Addr} {m : Str → Option Value} {x : Str} {v : Value} {Q : Unit → Pos → Shared → Prop} (hn : s.heap.Ns a m)
    (h : Sem.wp M Γ (nsSet a x v) Q E p s) : Sem.wp M Γ (nsSet a x v) (fun u q s' => Q u q s' ∧ s'.heap.Ns a (fun y => if y = x then some v else m y)) E p s := by
  have g := Sem.wp_nsSet M Γ E p s hn x v (fun _ _ s' => s'.heap.Ns a (fun y => if y = x then some v else m y)) fun _ n _ => n
  obtain ⟨o, es, ep, ho, hd, hk, hm⟩ := hn
  have none : (es.any fun e => e.refKey) = false := by
    refine Array.any_eq_false'.mpr fun e he => ?_
    obtain ⟨n, t, hs⟩ := hk e he
    unfold DictEntry.refKey
    rw [hs]
    simp
  simp only [Sem.wp_pure', Sem.wp_bind', nsSet, Sem.wp_cmd_ask, Sem.wp_cmd_mkText, strHash] at h g ⊢
  rw [Sem.wp_loadPart_of M Γ E p { s with toks := s.toks + 1 } (o := o) _ ho] at h g ⊢
  simp only [hd, none, aRefKeyMayBeTheName_eq, Sem.wp_cmd_updatePart, aRefKeyMayBeTheNameByArray, Bool.and_false, Bool.false_eq_true, if_false] at h g ⊢
  exact ⟨h.1, h.2, g.2⟩
section
variable {X : Cx} {pins : List (Addr × Obj)} {σ : L2.St} {H : Hp} {s : Shared}
/-- a local name is stored: the state, and the value itself -/
theorem store_raw {i : Nat} {x : Str} {v : V} {u : Value} {m : Str → Option Value} {E : Value → Shared → Prop} {Q : Unit → Shared → Prop} (I : Inv X pins σ H s) (hN : X.N.Nodup) (hi : X.N[i]? = some x) (hk : X.env.scope.names.lookup x = some .local) (r : RelV v u)
    (hn : s.heap.Ns X.env.locals m) (q : ∀ s', Inv X pins (σ.set i (some v)) H s' → s'.heap.Ns X.env.locals (fun y => if y = x then some u else m y) → Q () s') : wpAny (model X.prog X.w) X.A (storeName X.env x u) Q E s := by
  have hcls : (X.env.scope.kind == .class || (X.env.scope.kind == .module && X.env.locals != X.env.globals)) = false := by rw [I.ok.kind]; rfl
  have h1 : wpAny (model X.prog X.w) X.A (storeName X.env x u) (fun _ s' => Inv X pins (σ.set i (some v)) H s') E s := store_ok I hN hi (.inl hk) r (fun _ J => J) (.inr hk)
  rw [storeName_local hk hcls] at h1 ⊢
  intro Γ p hΓ
  exact Sem.wp_mono _ Γ _ (fun _ _ s' g => q s' g.1 g.2) (fun _ _ _ e => e) p s (set_both hn (h1 Γ p hΓ))
/-- a tuple of two written texts, of the module: its objects are two -/
structure PairT (K : PySem.W.Frag) (a : Addr) (y z : Str) : Prop where
  ex : ∃ o n t u, K.lookup a = some o ∧ o.cls = .type "tuple" ∧ o.data = .seq #[.str y t, .str z u] n ∧ t ≠ 0 ∧ u ≠ 0 ∧ t ≠ u
  ne : (y == z) = false
  one : z.length = 1
theorem load_raw {x : Str} {v : Value} {m : Str → Option Value} {pos : Pos} {Q E : Value → Shared → Prop} (I : Inv X pins σ H s) (hk : X.env.scope.names.lookup x = some .local) (hn : s.heap.Ns X.env.locals m) (hm : m x = some v) (q : Q v s)
    (hd : (x == ("__debug__" : Str)) = false := by decide) : wpAny (model X.prog X.w) X.A (eval (.Name x pos) X.env) Q E s :=
  wpAny_Name (wpAny_loadName_local I.ok.kind hk hn hm q) hd
/-- one turn: for a, b in ..: text = text.replace(a, b) -/
theorem rep_turn {a : Addr} {y z cur x0 x1 x2 : Str} {p1 p2 p3 p4 p5 p6 p7 p8 apos cpos : Pos} {k : Nat} (hc : X.calm = true) (hN : X.N = [x0, x1, x2]) (hnd : X.N.Nodup) (l0 : X.env.scope.names.lookup x0 = some .local) (l1 : X.env.scope.names.lookup x1 = some .local) (l2 : X.env.scope.names.lookup x2 = some .local)
    (d0 : (x0 == ("__debug__" : Str)) = false) (d1 : (x1 == ("__debug__" : Str)) = false) (d2 : (x2 == ("__debug__" : Str)) = false) (c0 : (x0 == ("__classdict__" : Str)) = false)
    (hst : starEach [.Name x1 p6, .Name x2 p7] X.env = [(false, eval (.Name x1 p6) X.env), (false, eval (.Name x2 p7) X.env)])
    (hbase : attributeBase (.Name x0 p5) "replace" X.env (eval (.Name x0 p5) X.env) = eval (.Name x0 p5) X.env) (hline : (apos.endLine == cpos.line) = true)
    (hsw : swapsWith (.Call (.Attribute (.Name x0 p5) "replace" apos) [.Name x1 p6, .Name x2 p7] [] cpos) (some (.Name x0 p4)) p8.line X.env = pure false)
    (hae : assignEach [.Name x1 p1, .Name x2 p2] X.env = [(false, assign (.Name x1 p1) X.env), (false, assign (.Name x2 p2) X.env)])
    (I : Inv X pins σ H s) (hp : PairT X.K a y z) (h0 : σ[0]? = some (some (.str cur))) (hb : cur.length + (cur.length + 1) * z.length ≤ 16777216) {Q : Flow → Shared → Prop} {E E' : Value → Shared → Prop}
    (q : ∀ σ' s', Inv X pins σ' H s' → σ'[0]? = some (some (.str (Txt.replace cur y z))) → Q .next s') :
    wpAny (model X.prog X.w) X.A (assign (.Tuple [.Name x1 p1, .Name x2 p2] k p3) X.env (.ref a)) (fun _ s1 => wpAny (model X.prog X.w) X.A (execs [.Assign [.Name x0 p4] (.Call (.Attribute (.Name x0 p5) "replace" apos) [.Name x1 p6, .Name x2 p7] [] cpos) p8] X.env) Q E' s1) E s := by
  obtain ⟨⟨o, n, t, u, hl, ho, hd, ht, hu, htu⟩, hyz, hz⟩ := hp
  have hi0 : X.N[0]? = some x0 := by rw [hN]; rfl
  have hi1 : X.N[1]? = some x1 := by rw [hN]; rfl
  have hi2 : X.N[2]? = some x2 := by rw [hN]; rfl
  have n12 : x2 ≠ x1 := by
    rw [hN] at hnd
    intro e
    subst e
    simp at hnd
  refine assign_Tuple_tuple (items := #[.str y t, .str z u]) (I.ok.hd hc) ⟨o, I.kIn a o hl, ho, n, hd⟩ (by rw [hae]; rfl) (by rw [hae]; rfl) fun h' hx => ?_
  have I1 : Inv X pins σ H { s with heap := h' } := I.kept (t' := s.toks) fun b o e => hx b o (Nat.ne_of_lt (Heap.lt_size e)) e
  rw [hae]
  obtain ⟨m, hm, _⟩ := id I1.loc
  refine assignInOrder_cons (wpAny_assign_Name (store_raw I1 hnd hi1 l1 (v := .str y) ⟨t, rfl⟩ hm fun s2 I2 m2 => ?_))
  refine assignInOrder_cons (wpAny_assign_Name (store_raw I2 hnd hi2 l2 (v := .str z) ⟨u, rfl⟩ m2 fun s3 I3 m3 => assignInOrder_nil ?_))
  have k1 : (fun w => if w = x2 then some (Value.str z u) else if w = x1 then some (Value.str y t) else m w) x1 = some (Value.str y t) := by
    show (if x1 = x2 then _ else if x1 = x1 then _ else _) = _
    rw [if_neg (Ne.symm n12), if_pos rfl]
  have k2 : (fun w => if w = x2 then some (Value.str z u) else if w = x1 then some (Value.str y t) else m w) x2 = some (Value.str z u) := by
    show (if x2 = x2 then _ else _) = _
    rw [if_pos rfl]
  have g0 : (((σ.set 1 (some (V.str y))).set 2 (some (V.str z))) : L2.St)[0]? = some (some (.str cur)) := by
    rw [List.getElem?_set_ne (by decide), List.getElem?_set_ne (by decide)]; exact h0
  have hlen := I3.len
  refine wpAny_execs_cons (wpAny_Assign_Name (PySem.Call_method2 hbase hst hline (raw_name hi0 (.inl l0) I3 g0 (fun v r => ?_) d0 c0)) hsw)
  obtain ⟨tx, e⟩ := r
  subst e
  refine ⟨"str", _, F.plainAttrs_str, F.slot_str_replace, F.type_str_replace, typeIs_str _ _ _, (fun _ e => nomatch e), Calls.callWith_builtin rfl (Calls.evalArgs_plain (Calls.spliced_cons ?_))⟩
  refine load_raw I3 l1 m3 k1 (Calls.spliced_cons (load_raw I3 l2 m3 k2 (Calls.spliced_nil ?_) d2)) d1
  refine PySem.SC.replace ht hu htu hyz hb fun t' j => ?_
  refine store_ok (v := V.str (Txt.replace cur y z)) (I3.tok j) hnd hi0 (.inl l0) ⟨t', rfl⟩ (fun s4 I4 => ?_) (.inr l0)
  refine wpAny_execs_nil (q _ _ I4 ?_)
  rw [List.getElem?_set_self (by rw [hlen, hN]; show 0 < 3; omega)]
/-- one replacing behind another -/
def reps : Str → List (Str × Str) → Str
  | x, [] => x
  | x, p :: r => reps (Txt.replace x p.1 p.2) r
theorem isTupleIter_keep {h h' : Heap} {it a : Addr} {i : Nat} (t : h.IsTupleIter it a i) (k : ∀ o, h.get? it = some o → h'.get? it = some o) : h'.IsTupleIter it a i := by
  obtain ⟨o, e, c, d⟩ := t
  exact ⟨o, k o e, c, d⟩
theorem ps_reps {a : Addr} {as : List Addr} {ps : List (Str × Str)} {x0 x1 x2 gx : Str} {p1 p2 p3 p4 p5 p6 p7 p8 p9 p10 apos cpos : Pos} {k n : Nat} {dd : Option Addr} {sl : Array (Option Value)} (hp : PassesOwn (model X.prog X.w) X.A X.env X.xe) (hc : X.calm = true)
    (hN : X.N = [x0, x1, x2]) (hnd : X.N.Nodup) (l0 : X.env.scope.names.lookup x0 = some .local) (l1 : X.env.scope.names.lookup x1 = some .local) (l2 : X.env.scope.names.lookup x2 = some .local)
    (d0 : (x0 == ("__debug__" : Str)) = false) (d1 : (x1 == ("__debug__" : Str)) = false) (d2 : (x2 == ("__debug__" : Str)) = false) (c0 : (x0 == ("__classdict__" : Str)) = false) (dg : (gx == ("__debug__" : Str)) = false)
    (hst : starEach [.Name x1 p6, .Name x2 p7] X.env = [(false, eval (.Name x1 p6) X.env), (false, eval (.Name x2 p7) X.env)])
    (hbase : attributeBase (.Name x0 p5) "replace" X.env (eval (.Name x0 p5) X.env) = eval (.Name x0 p5) X.env) (hline : (apos.endLine == cpos.line) = true)
    (hsw : swapsWith (.Call (.Attribute (.Name x0 p5) "replace" apos) [.Name x1 p6, .Name x2 p7] [] cpos) (some (.Name x0 p4)) p8.line X.env = pure false)
    (hae : assignEach [.Name x1 p1, .Name x2 p2] X.env = [(false, assign (.Name x1 p1) X.env), (false, assign (.Name x2 p2) X.env)]) (hfs : ∀ x, foldedSetIterable (.Name gx p9) X.env x = pure x)
    (hg : Gl X gx) (hm : X.mg gx = some (.ref a)) (hl : X.K.lookup a = some ⟨.type "tuple", dd, .seq (as.map Value.ref).toArray n, sl⟩) (hlen : as.length ≤ 4) (hps : ps.length = as.length)
    (hpr : ∀ (i : Nat) (b : Addr), as[i]? = some b → ∃ y z, ps[i]? = some (y, z) ∧ PairT X.K b y z) :
    PS X (.For (.Tuple [.Name x1 p1, .Name x2 p2] k p3) (.Name gx p9) [.Assign [.Name x0 p4] (.Call (.Attribute (.Name x0 p5) "replace" apos) [.Name x1 p6, .Name x2 p7] [] cpos) p8] [] p10)
      (fun D σ H => ∃ cur, σ[0]? = some (some (.str cur)) ∧ cur.length ≤ 400000 ∧ ∀ σ', σ'[0]? = some (some (.str (reps cur ps))) → D.nx σ' H) := by
  refine ⟨fun pins s σ H D I h => ?_⟩
  obtain ⟨cur, h0, hb, q⟩ := h
  have vals : ∀ bs : List Addr, Vals (bs.map V.ref) (bs.map Value.ref) := fun bs => by
    induction bs with
    | nil => exact .nil
    | cons b r ih => exact .cons rfl ih
  have sq : SqT X.K H a (as.map V.ref) := .inr ⟨_, _, n, hl, rfl, rfl, Evl.sz_of (by simp; omega), by simpa using vals as⟩
  refine wpAny_For (ld_glob I hg hm ?_ dg) hfs
  refine wpAny_pyIter_tuple (items := (as.map Value.ref).toArray) ⟨_, I.kIn a _ hl, rfl, n, rfl⟩ ?_
  generalize hit : s.heap.objs.size = it
  have fp : ∀ b ∈ [it], FpOk X pins H b := fun b hb => by
    have e : b = it := by simpa using hb
    subst e
    subst hit
    exact I.fpOk (Nat.le_refl _) (I.hok.fresh (Nat.le_refl _))
  have T : Turn X.prog X.w X.K (.Tuple [.Name x1 p1, .Name x2 p2] k p3) (Itt X.K a) [it] it (fun i h => h.IsTupleIter it a i) := turn_tuple a it
  refine codeAny_forLoop_any (fun m s' => ∃ i σ' c, m + i = as.length ∧ Inv X pins σ' H s' ∧ s'.heap.IsTupleIter it a i ∧ σ'[0]? = some (some (.str c)) ∧ reps c (ps.drop i) = reps cur ps ∧ (c.length + 1) * 2 ^ m ≤ 8000000) ?_ as.length
    ⟨0, σ, cur, rfl, ?_, ?_, h0, rfl, ?_⟩
  · rintro m s3 ⟨i, σ3, c, hmi, I3, t3, g3, r3, b3⟩
    by_cases hi : i < as.length
    · have hx : (as.map V.ref)[i]? = some (.ref as[i]) := by rw [List.getElem?_map, List.getElem?_eq_getElem hi]; rfl
      obtain ⟨y, z, hyz, P⟩ := hpr i as[i] (List.getElem?_eq_getElem hi)
      have hz := P.one
      refine wpAny_passesOwn hp (thn (T.item X rfl rfl rfl hc i pins s3 σ3 H X.xe I3 fp t3 ⟨_, _, sq, hx⟩) fun r s4 ⟨u, hr, h4⟩ => ?_)
      subst hr
      refine wpAny_passesOwn hp (thn h4 fun _ s5 ⟨x, H5, I5, r5, y5, t5, f5⟩ => ?_)
      obtain ⟨e5, y5⟩ := y5
      subst e5
      have e6 : x = .ref as[i] := by
        have := y5 _ sq
        rw [hx] at this
        exact (Option.some.inj this).symm
      subst e6
      cases r5
      have J5 := I5.pinned fp (T.obj _ _ t5)
      have hm1 : 1 ≤ m := by omega
      have hpow : 2 ^ m = 2 * 2 ^ (m - 1) := by
        obtain ⟨m', rfl⟩ : ∃ m', m = m' + 1 := ⟨m - 1, by omega⟩
        rw [Nat.add_sub_cancel, Nat.pow_succ, Nat.mul_comm]
      have hp1 : 1 ≤ 2 ^ (m - 1) := Nat.one_le_two_pow
      have hcl : c.length + 1 ≤ 8000000 := Nat.le_trans (Nat.le_mul_of_pos_right _ (Nat.two_pow_pos m)) b3
      refine wpAny_passesOwn hp ?_
      refine rep_turn hc hN hnd l0 l1 l2 d0 d1 d2 c0 hst hbase hline hsw hae J5 P g3 (by rw [hz]; omega) fun σ6 s6 I6 g6 => ?_
      refine ⟨m - 1, by omega, i + 1, σ6, _, by omega, I6.unpinned, isTupleIter_keep t5 fun o ho => (I6.pin (it, o) (List.mem_append_right _ (List.mem_append_right _ (mem_pinsAt (List.mem_singleton.mpr rfl) ho)))).1, g6, ?_, ?_⟩
      · rw [← r3]
        have e : ps.drop i = (y, z) :: ps.drop (i + 1) := by
          have hl := (List.getElem?_eq_some_iff.mp hyz).1
          rw [List.drop_eq_getElem_cons hl]
          rw [List.getElem?_eq_getElem hl] at hyz
          rw [Option.some.inj hyz]
        rw [e]
        rfl
      · have hrl := TK.replace_len c y z
        rw [hz] at hrl
        rw [hpow] at b3
        have : (Txt.replace c y z).length + 1 ≤ (c.length + 1) * 2 := by omega
        calc ((Txt.replace c y z).length + 1) * 2 ^ (m - 1) ≤ (c.length + 1) * 2 * 2 ^ (m - 1) := Nat.mul_le_mul_right _ this
          _ = (c.length + 1) * (2 * 2 ^ (m - 1)) := Nat.mul_assoc _ _ _
          _ ≤ _ := b3
    · refine wpAny_passesOwn hp (thn (T.done X rfl rfl rfl hc i pins s3 σ3 H X.xe I3 fp t3 ⟨_, sq, by rw [List.length_map]; omega⟩) fun r s4 ⟨hr, I4⟩ => ?_)
      subst hr
      refine wpAny_execs_nil ⟨σ3, H, I4, q _ ?_⟩
      rw [g3]
      rw [List.drop_eq_nil_of_le (by omega)] at r3
      rw [← r3]
      rfl
  · exact I.kept (t' := s.toks) fun b o e => Heap.get?_push_of_some _ e
  · subst hit
    exact ⟨_, Heap.get?_push_size _ rfl, rfl, rfl⟩
  · have : 2 ^ as.length ≤ 2 ^ 4 := Nat.pow_le_pow_right (by decide) hlen
    calc (cur.length + 1) * 2 ^ as.length ≤ (cur.length + 1) * 2 ^ 4 := Nat.mul_le_mul_left _ this
      _ ≤ _ := by omega
end
section
variable {K : PySem.W.Frag} {mg : Str → Option Value}
/-- a tuple of such pairs, of the module -/
structure PairsT (K : PySem.W.Frag) (mg : Str → Option Value) (gx : Str) (ps : List (Str × Str)) : Prop where
  ex : ∃ (a : Addr) (as : List Addr) (n : Nat) (dd : Option Addr) (sl : Array (Option Value)), mg gx = some (.ref a) ∧ K.lookup a = some ⟨.type "tuple", dd, .seq (as.map Value.ref).toArray n, sl⟩ ∧ as.length ≤ 4 ∧ ps.length = as.length ∧
    ∀ (i : Nat) (b : Addr), as[i]? = some b → ∃ y z, ps[i]? = some (y, z) ∧ PairT K b y z
theorem pair_of {a : Addr} {dd : Option Addr} {y z : Str} {t u : Tok} {n : Nat} {sl : Array (Option Value)} (l : K.lookup a = some ⟨.type "tuple", dd, .seq #[.str y t, .str z u] n, sl⟩) (h : t ≠ 0 ∧ u ≠ 0 ∧ t ≠ u) (ne : (y == z) = false) (one : z.length = 1) : PairT K a y z :=
  ⟨⟨_, n, t, u, l, rfl, rfl, h.1, h.2.1, h.2.2⟩, ne, one⟩
theorem pairs_nil : ∀ (i : Nat) (b : Addr), ([] : List Addr)[i]? = some b → ∃ y z, ([] : List (Str × Str))[i]? = some (y, z) ∧ PairT K b y z := fun i b h => by simp at h
theorem pairs_cons {a : Addr} {y z : Str} {as : List Addr} {ps : List (Str × Str)} (h : PairT K a y z) (r : ∀ (i : Nat) (b : Addr), as[i]? = some b → ∃ y z, ps[i]? = some (y, z) ∧ PairT K b y z) :
    ∀ (i : Nat) (b : Addr), (a :: as)[i]? = some b → ∃ y' z', ((y, z) :: ps)[i]? = some (y', z') ∧ PairT K b y' z'
  | 0, b, e => by
    cases e
    exact ⟨y, z, rfl, h⟩
  | i + 1, b, e => r i b (by simpa using e)
end
end VI
end
section
namespace VI
open PySem PySem.Spec PyProof.Rows L2
/-! ### where a token is out: what replaces texts -/
section
variable (X : Cx)
def WET (e : Expr) : TE := fun σ H Q => ∀ pins s, 1 ≤ s.toks → Inv X pins σ H s → wpAny (model X.prog X.w) X.A (eval e X.env) (EP X pins σ Q) X.xe s
def WST (st : Stmt) : TS := fun D σ H => ∀ pins s, 1 ≤ s.toks → Inv X pins σ H s → wpAny (model X.prog X.w) X.A (exec st X.env) (SP X pins D) X.xe s
def WBT (st : List Stmt) : TS := fun D σ H => ∀ pins s, 1 ≤ s.toks → Inv X pins σ H s → wpAny (model X.prog X.w) X.A (execs st X.env) (SP X pins D) X.xe s
end
section
variable {X : Cx} {a b c e o tg iter : Expr} {es : List Expr} {st : Stmt} {sts : List Stmt} {pos p apos cpos : Pos} {fa fb fe fo : EF} {fi : AF} {g : GF} {ws : List Nat} {f1 f2 : BF} {tc : TF}
theorem pet_w : PET X e (WET X e) := fun pins s σ H Q k I h => h pins s k I
theorem pst_w : PST X st (WST X st) := fun pins s σ H D k I h => h pins s k I
theorem psst_w : PSsT X sts (WBT X sts) := fun pins s σ H D k I h => h pins s k I
theorem wet_of {t : TE} (h : PET X e t) {σ H Q} (q : t σ H Q) : WET X e σ H Q := fun pins s k I => h pins s σ H Q k I q
theorem wst_of {t : TS} (h : PST X st t) {σ H D} (q : t D σ H) : WST X st D σ H := fun pins s k I => h pins s σ H D k I q
theorem wbt_of {t : TS} (h : PSsT X sts t) {σ H D} (q : t D σ H) : WBT X sts D σ H := fun pins s k I => h pins s σ H D k I q
structure JET (X : Cx) (e : Expr) (f : EF) : Prop where
  run : ∀ {F φ m H ρ σ d m'}, Rep X.K F φ m H → EnvR X.K F φ ρ σ → f ρ m = some (d, m') → ∀ Q : VK, (∀ F' φ' v H', Nxt X.K F φ m H F' φ' m' H' → VR X.K F' φ' d v → Q v H') → WET X e σ H Q
structure JST (X : Cx) (st : Stmt) (f : BF) : Prop where
  run : ∀ {F φ m H ρ σ r m'}, Rep X.K F φ m H → EnvR X.K F φ ρ σ → f ρ m = some (r, m') → ∀ D : Ends, FlOk X.K F φ m H m' D r → WST X st D σ H
structure JBT (X : Cx) (sts : List Stmt) (f : BF) : Prop where
  run : ∀ {F φ m H ρ σ r m'}, Rep X.K F φ m H → EnvR X.K F φ ρ σ → f ρ m = some (r, m') → ∀ D : Ends, FlOk X.K F φ m H m' D r → WBT X sts D σ H
theorem JET.of (h : JE X e fe) : JET X e fe := ⟨fun rp er hf Q q pins s _ I => h.run rp er hf Q q pins s I⟩
theorem JST.of (h : JS X st f1) : JST X st f1 := ⟨fun rp er hf D q pins s _ I => h.run rp er hf D q pins s I⟩
theorem JBT.of (h : JB X sts f1) : JBT X sts f1 := ⟨fun rp er hf D q pins s _ I => h.run rp er hf D q pins s I⟩
def eRepl (y z : List Nat) (fo : EF) : EF := fun ρ m => match fo ρ m with
  | some (.str s, m1) => if s.length + (s.length + 1) * z.length ≤ 16777216 then some (.str (StrLaws.replL y z s), m1) else none
  | _ => none
theorem repl_S (s : List Nat) (y z : Str) (hy : 1 ≤ y.length) : Txt.replace (S s) y z = S (StrLaws.replL y.cps.toList z.cps.toList s) := by
  have e := StrLaws.replace_list (x := S s) (z := z) hy
  rw [S_tl] at e
  rw [← e, S_mk]
theorem jet_repl (yl zl : List Nat) {y z : Str} {j k : Nat} {c0 c1 : Pos} (ho : JET X o fo) (e1 : y = S yl := by decide +kernel) (e2 : z = S zl := by decide +kernel) (hy : 1 ≤ yl.length := by decide) (hyz : (y == z) = false := by decide +kernel)
    (hst : starEach [.Constant (.str y) j c0, .Constant (.str z) k c1] X.env = [(false, eval (.Constant (.str y) j c0) X.env), (false, eval (.Constant (.str z) k c1) X.env)] := by rfl)
    (hbase : attributeBase o "replace" X.env (eval o X.env) = eval o X.env := by rfl) (hline : (apos.endLine == pos.line) = true := by rfl) :
    JET X (.Call (.Attribute o "replace" apos) [.Constant (.str y) j c0, .Constant (.str z) k c1] [] pos) (eRepl yl zl fo) := ⟨fun {F φ m H ρ σ d m'} rp er hf Q q => by
  refine wet_of (CwR.pet_replT pet_w hyz hst hbase hline) ?_
  unfold eRepl at hf
  split at hf
  · rename_i s m1 h1
    split at hf
    · rename_i hb
      cases hf
      refine ho.run rp er h1 _ fun F1 φ1 v H1 n1 r1 => ?_
      cases r1
      refine ⟨S s, rfl, by rw [e2, S_len, S_len]; exact hb, ?_⟩
      have hy' : 1 ≤ y.length := by rw [e1, S_len]; exact hy
      rw [repl_S s y z hy', e1, e2, S_tl, S_tl]
      exact q _ _ _ _ n1 (.str _)
    · cases hf
  · cases hf⟩
theorem jet_op {op : Operator} {r : Mem → D → D → Option D} (ho : OD X (binaryOp op) r) (ha : JET X a fa) (hb : JET X b fb) : JET X (.BinOp a op b pos) (eOp r fa fb) := ⟨fun {F φ m H ρ σ d m'} rp er hf Q q => by
  refine wet_of (CwR.pet_op opr_w pet_w pet_w) ?_
  unfold eOp at hf
  split at hf
  · rename_i x m1 h1
    split at hf
    · rename_i y m2 h2
      split at hf
      · rename_i d' h3
        cases hf
        refine ha.run rp er h1 _ fun F1 φ1 vx H1 n1 r1 => ?_
        refine hb.run n1.rep (er.mono n1.exF n1.pre) h2 _ fun F2 φ2 vy H2 n2 r2 => ?_
        exact ho n2.rep (r1.mono n2.exF n2.pre) r2 h3 _ fun F' φ' v H' n' r' => q _ _ _ _ ((n1.trans n2).trans n') r'
      · cases hf
    · cases hf
  · cases hf⟩
theorem jst_ret (he : JET X e fe) : JST X (.Return (some e) pos) (bRet fe) := ⟨fun {F φ m H ρ σ r m'} rp er hf D q => by
  unfold bRet at hf
  split at hf
  · rename_i d m1 h1
    cases hf
    exact wst_of (CwR.pst_ret pet_w) (he.run rp er h1 _ fun F1 φ1 v H1 n1 r1 => q _ _ _ _ n1 r1)
  · cases hf⟩
theorem jst_if {c : Expr} {a b : List Stmt} (hc : JT X c tc) (ha : JBT X a f1) (hb : JBT X b f2) : JST X (.If c a b pos) (bIf tc f1 f2) := ⟨fun {F φ m H ρ σ r m'} rp er hf D q => by
  refine wst_of (CwR.pst_if pt_w psst_w psst_w) ?_
  unfold bIf at hf
  split at hf
  · rename_i m1 h1
    refine hc.run rp er h1 _ fun F1 φ1 H1 n1 => ?_
    rw [if_pos rfl]
    exact ha.run n1.rep (er.mono n1.exF n1.pre) hf D (q.after n1)
  · rename_i m1 h1
    refine hc.run rp er h1 _ fun F1 φ1 H1 n1 => ?_
    rw [if_neg Bool.false_ne_true]
    exact hb.run n1.rep (er.mono n1.exF n1.pre) hf D (q.after n1)
  · cases hf⟩
theorem jst_set (hg : JG X tg g ws) (he : JET X e fe) (hs : swapsWithSole [tg] e pos.line X.env = pure false := by rfl) (hw : swappedStores [tg] e X.env = pure none := by rfl)
    (h1 : (assignEach [tg] X.env).map (·.2) = [assign tg X.env] := by rfl) : JST X (.Assign [tg] e pos) (bSet g fe) := ⟨fun {F φ m H ρ σ r m'} rp er hf D q pins s k I => by
  unfold bSet at hf
  split at hf
  · rename_i d m1 e1
    split at hf
    · rename_i ρ1 m2 e2
      cases hf
      refine wpAny_Assign_stores (thn (he.run rp er e1 (fun v H1 => WG X tg v σ H1 D.nx) (fun F1 φ1 v H1 n1 r1 => hg.run n1.rep (er.mono n1.exF n1.pre) r1 e2 _ fun F2 φ2 σ2 H2 n2 er2 _ => q _ _ _ _ (n1.trans n2) er2) pins s k I) fun v s1 ⟨x, H1, I1, r1, q1⟩ => ?_) hs hw
      rw [h1]
      exact q1 pins s1 v I1 r1
    · cases hf
  · cases hf⟩
theorem jbt_nil : JBT X [] bNil := JBT.of jb_nil
theorem jbt_cons (h1 : JST X st f1) (h2 : JBT X sts f2) : JBT X (st :: sts) (bSeq f1 f2) := ⟨fun {F φ m H ρ σ r m'} rp er hf D q => by
  refine wbt_of (psst_cons pst_w psst_w) ?_
  unfold bSeq at hf
  split at hf
  · rename_i ρ1 m1 e1
    refine h1.run rp er e1 _ fun F1 φ1 σ1 H1 n1 er1 => ?_
    exact h2.run n1.rep er1 hf D (q.after n1)
  · rename_i r1 m1 hne e1
    cases hf
    refine h1.run rp er e1 _ ?_
    cases r with
    | nx ρ => exact (hne _ rfl).elim
    | bk ρ => exact q
    | ct ρ => exact q
    | rt d => exact q
  · cases hf⟩
theorem jbt_one (h1 : JST X st f1) : JBT X [st] f1 := ⟨fun rp er hf D q => wbt_of (CwR.psst_one pst_w) (h1.run rp er hf D q)⟩
end
end VI
end
section
namespace VI
open PySem PySem.Spec PyProof.Rows L2
section
variable {X : Cx} {tg iter : Expr} {sts : List Stmt} {pos : Pos} {fi : AF} {g : GF} {ws : List Nat} {f1 : BF}
theorem thnT {α : Type} {M : Model} {A : Around} {t : Sem α} {Q Q' : α → Shared → Prop} {E : Value → Shared → Prop} {s : Shared} (h : wpAny M A t Q E s) (q : ∀ v s', s.toks ≤ s'.toks ∧ Q v s' → Q' v s') : wpAny M A t Q' E s :=
  wpAny_mono (PySem.wpAny_toks h) q fun _ _ z => z.2
theorem jst_for (hp : PassesOwn (model X.prog X.w) X.A X.env X.xe) (hc : X.calm = true) (hi : JI X tg iter fi) (hg : JG X tg g ws) (hb : JBT X sts f1) (hs : ∀ x, foldedSetIterable iter X.env x = pure x := by intro _; rfl) :
    JST X (.For tg iter sts [] pos) (bFor fi g f1) := ⟨fun {F φ m H ρ σ r m'} rp er hf D q pins s k I => by
  unfold bFor at hf
  split at hf
  · rename_i ds m1 h1
    have w := hi.run rp er h1 (fun J H1 => ∃ F1 φ1, Nxt X.K F φ m H F1 φ1 m1 H1 ∧ ItD X.K F1 φ1 J ds) (fun F1 φ1 J H1 n it => ⟨F1, φ1, n, it⟩) pins s I
    refine wpAny_For (thnT w fun v s1 ⟨k1, w1⟩ => thnT w1 fun itv s2 ⟨k2, w2⟩ => ?_) hs
    obtain ⟨it, fp, tn, J, H2, e, I2, T, t2, f2, F1, φ1, n1, itd⟩ := w2
    subst e
    refine codeAny_forLoop_any (fun n s' => 1 ≤ s'.toks ∧ ∃ i F2 φ2 m2 ρ2 σ2 H', n + i = ds.length ∧ Inv X pins σ2 H' s' ∧ tn i s'.heap ∧ (∀ b ∈ fp, H' b = none) ∧ Rep X.K F2 φ2 m2 H' ∧ Evl.Ex F1 F2 ∧ Pre φ1 φ2 ∧ EnvR X.K F2 φ2 ρ2 σ2 ∧
      forV g f1 (ds.drop i) ρ2 m2 = some (r, m') ∧ FlOk X.K F2 φ2 m2 H' m' D r) ?_ ds.length ⟨by omega, 0, F1, φ1, m1, ρ, σ, H2, by omega, I2, t2, fun b hb => (f2 b hb).1, n1.rep, Evl.Ex.refl _, Pre.refl _, er.mono n1.exF n1.pre, hf, q.after n1⟩
    rintro n s3 ⟨k3, i, F2, φ2, m2, ρ2, σ2, H3, hn, I3, t3, fr, rp2, ex2, pr2, er2, hf2, q2⟩
    have fok : ∀ {G : Hp}, (∀ b ∈ fp, G b = none) → ∀ b ∈ fp, FpOk X pins G b := fun z b hb => ⟨z b hb, (f2 b hb).2⟩
    by_cases hlt : i < ds.length
    · refine wpAny_passesOwn hp (thnT (T.item X rfl rfl rfl hc i pins s3 σ2 H3 X.xe I3 (fok fr) t3 (itd.go i H3 (ex2.trans rp2.ex) hlt)) fun o s4 ⟨k4, u, ho, w4⟩ => ?_)
      subst ho
      refine wpAny_passesOwn hp (thnT w4 fun _ s5 ⟨k5, x, H5, I5, r5, y5, t5, fr5⟩ => ?_)
      obtain ⟨F5, n5, rx⟩ := itd.yld i F2 φ2 m2 H3 x H5 ds[i] rp2 ex2 pr2 (List.getElem?_eq_getElem hlt) y5
      have J5 := I5.pinned (fok fr5) (T.obj _ _ t5)
      rw [List.drop_eq_getElem_cons hlt] at hf2
      unfold forV at hf2
      split at hf2
      · rename_i ρ4 m4 e4
        have wg := hg.run n5.rep (er2.mono n5.exF n5.pre) rx e4 (fun σ4 H4 => ∃ F4 φ4, Nxt X.K F5 φ2 m2 H5 F4 φ4 m4 H4 ∧ EnvR X.K F4 φ4 ρ4 σ4) (fun F4 φ4 σ4 H4 n4 er4 _ => ⟨F4, φ4, n4, er4⟩) _ s5 u J5 r5
        refine wpAny_passesOwn hp (thnT wg fun _ s6 ⟨k6, σ6, H6, I6, F6, φ6, n6, er6⟩ => ?_)
        have n56 := n5.trans n6
        let P : L2.St → Hp → Prop := fun σ7 H7 => ∃ F7 φ7 m7 ρ7, Nxt X.K F2 φ2 m2 H3 F7 φ7 m7 H7 ∧ EnvR X.K F7 φ7 ρ7 σ7 ∧ forV g f1 (ds.drop (i + 1)) ρ7 m7 = some (r, m')
        have fin : ∀ {f : Flow} {s7 : Shared} {σ7 : L2.St} {H7 : Hp}, s6.toks ≤ s7.toks → Inv X (pins ++ pinsAt fp s5.heap) σ7 H7 s7 → P σ7 H7 → ∃ l, l < n ∧ 1 ≤ s7.toks ∧ ∃ i F2 φ2 m2 ρ2 σ2 H', l + i = ds.length ∧ Inv X pins σ2 H' s7 ∧ tn i s7.heap ∧ (∀ b ∈ fp, H' b = none) ∧ Rep X.K F2 φ2 m2 H' ∧ Evl.Ex F1 F2 ∧ Pre φ1 φ2 ∧ EnvR X.K F2 φ2 ρ2 σ2 ∧
            forV g f1 (ds.drop i) ρ2 m2 = some (r, m') ∧ FlOk X.K F2 φ2 m2 H' m' D r := fun {f s7 σ7 H7} k7 I7 ⟨F7, φ7, m7, ρ7, n7, er7, hf7⟩ => by
          have pn : ∀ b ∈ fp, ∀ o, s5.heap.get? b = some o → s7.heap.get? b = some o ∧ H7 b = none := fun b hb o e => by
            have z := I7.pin (b, o) (List.mem_append_right _ (List.mem_append_right _ (mem_pinsAt hb e)))
            exact ⟨z.1, z.2.1⟩
          refine ⟨n - 1, by omega, by omega, i + 1, F7, φ7, m7, ρ7, σ7, H7, by omega, I7.unpinned, T.keep _ _ _ t5 fun b hb o e => (pn b hb o e).1, fun b hb => ?_, n7.rep, ex2.trans n7.exF, pr2.trans n7.pre, er7, hf7, q2.after n7⟩
          obtain ⟨o, e, _⟩ := T.obj _ _ t5 b hb
          exact (pn b hb o e).2
        have run : ∀ {r1 : Fl} {m5 : Mem}, f1 ρ4 m4 = some (r1, m5) → FlOk X.K F6 φ6 m4 H6 m5 { nx := P, ct := P, bk := D.nx, rt := D.rt } r1 → wpAny (model X.prog X.w) X.A (execs sts X.env) (fun f s7 => match f with
            | .next | .cont => ∃ l, l < n ∧ 1 ≤ s7.toks ∧ ∃ i F2 φ2 m2 ρ2 σ2 H', l + i = ds.length ∧ Inv X pins σ2 H' s7 ∧ tn i s7.heap ∧ (∀ b ∈ fp, H' b = none) ∧ Rep X.K F2 φ2 m2 H' ∧ Evl.Ex F1 F2 ∧ Pre φ1 φ2 ∧ EnvR X.K F2 φ2 ρ2 σ2 ∧ forV g f1 (ds.drop i) ρ2 m2 = some (r, m') ∧ FlOk X.K F2 φ2 m2 H' m' D r
            | .brk => SP X pins D .next s7
            | .ret v => SP X pins D (.ret v) s7) X.xe s6 := fun {r1 m5} e5 ok => by
          refine thnT (hb.run n6.rep er6 e5 _ ok _ s6 (by omega) I6) fun f s7 ⟨k7, w7⟩ => ?_
          cases f with
          | next => obtain ⟨σ7, H7, I7, z⟩ := w7; exact fin (f := .next) k7 I7 z
          | cont => obtain ⟨σ7, H7, I7, z⟩ := w7; exact fin (f := .next) k7 I7 z
          | brk => obtain ⟨σ7, H7, I7, z⟩ := w7; exact ⟨σ7, H7, I7.unpinned, z⟩
          | ret v => obtain ⟨x7, σ7, H7, I7, rv, z⟩ := w7; exact ⟨x7, σ7, H7, I7.unpinned, rv, z⟩
        refine wpAny_passesOwn hp ?_
        split at hf2
        · rename_i ρ5 m5 e5
          exact run e5 fun F7 φ7 σ7 H7 n7 er7 => ⟨F7, φ7, m5, ρ5, n56.trans n7, er7, hf2⟩
        · rename_i ρ5 m5 e5
          exact run e5 fun F7 φ7 σ7 H7 n7 er7 => ⟨F7, φ7, m5, ρ5, n56.trans n7, er7, hf2⟩
        · rename_i ρ5 m5 e5
          cases hf2
          exact run e5 fun F7 φ7 σ7 H7 n7 er7 => q2 _ _ _ _ (n56.trans n7) er7
        · rename_i d5 m5 e5
          cases hf2
          exact run e5 fun F7 φ7 v7 H7 n7 r7 => q2 _ _ _ _ (n56.trans n7) r7
        · cases hf2
      · cases hf2
    · refine wpAny_passesOwn hp (thn (T.done X rfl rfl rfl hc i pins s3 σ2 H3 X.xe I3 (fok fr) t3 (itd.stop i H3 (ex2.trans rp2.ex) (by omega))) fun o s4 ⟨ho, I4⟩ => ?_)
      subst ho
      have hi' : i = ds.length := by omega
      subst hi'
      rw [List.drop_length] at hf2
      cases hf2
      exact wpAny_execs_nil ⟨σ2, H3, I4, q2 _ _ _ _ (Nxt.refl rp2) er2⟩
  · cases hf⟩
end
end VI
end
section
namespace VI
open PySem PySem.Spec PyProof.Rows L2
theorem psst_nox {X : Cx} {st : List Stmt} {t : TS} (h : PSsT X.nox st t) : PSsT X st t := fun pins s σ H D k I hw =>
  wpAny_mono (h pins s σ H D k (I.wish _) hw) (fun _ _ q => q.unwish) fun _ _ z => z.elim
section
variable {P : Program} {w : World} {K : PySem.W.Frag} {mg : Str → Option Value} {base : Heap}
/-- a def's body, wherever it runs, a token out -/
abbrev BodyT (P : Program) (w : World) (K : PySem.W.Frag) (mg : Str → Option Value) (base : Heap) (k : Nat) (N : List Str) (qual : Str) (st : Stmt) (b : BF) : Prop :=
  ∀ (f : Addr) (cdv : Value) (A : Around) (outer : List PySem.Env) (s : Shared) (H : Hp) (E : XK), Room k (A.deeper (envOfC qual (defScope st) s.heap.objs.size f cdv)) → JBT (cxOf CX0 P w K mg base N qual (defScope st) f cdv A outer s H E).nox (defBody st) b
theorem okT {x qual : Str} {st : Stmt} {f : Addr} {fd : FuncData} {N ps : List Str} {k : Nat} {b : BF} (F : Fun K x qual st f fd) (S : FnScope N ps (defScope st)) (hnc : ∀ y ∈ (defScope st).names, y.2 ≠ .cell) (hps : 1 ≤ ps.length) (body : BodyT P w K mg base k N qual st b) :
    FnOk P w K mg base CX0 (k + 1) f fd ps (spD K (fnD ps.length N.length b)) := by
  obtain ⟨oc, od, kV, doc, pm, an, cdv, ct, osl, rfl, lk, hcd⟩ := F.ex
  refine fn_ofT lk hcd S hnc hps (fun vs H Q E h => ?_) fun A outer s H vs Q E hr h => ?_
  · obtain ⟨F0, φ, m, ds, d, m', rp, rv, hg, _⟩ := h
    unfold fnD at hg
    split at hg
    · rename_i hl
      exact rv.len.symm.trans hl
    · cases hg
  · obtain ⟨F0, φ, m, ds, d, m', rp, rv, hg, q⟩ := h
    unfold fnD at hg
    split at hg
    · rename_i hl
      refine ⟨WBT (cxOf CX0 P w K mg base N qual (defScope st) f cdv A outer s H E).nox (defBody st), psst_nox psst_w, ?_⟩
      split at hg
      · rename_i d1 m1 hb
        cases hg
        exact (body f cdv A outer s H E hr).run rp (EnvR.begin rfl rv) hb _ fun F' φ' v H' n r => q _ _ _ _ n r
      · rename_i ρ1 m1 hb
        cases hg
        exact (body f cdv A outer s H E hr).run rp (EnvR.begin rfl rv) hb _ fun F' φ' σ' H' n r => q _ _ _ _ n .non
      · cases hg
    · cases hg
theorem Fn.ofT {x qual : Str} {st : Stmt} {N ps : List Str} {k : Nat} {b : BF} (D : ∃ f fd, Fun K x qual st f fd ∧ mg x = some (.ref f)) (S : FnScope N ps (defScope st)) (hnc : ∀ y ∈ (defScope st).names, y.2 ≠ .cell) (hps : 1 ≤ ps.length)
    (bn : ∀ (kV doc pm : Value) (an : Option Addr) (cdv ct : Value) (us : List Value), us.length = ps.length → bindArgs (PySem.W.fnOf x qual (defArgs st) (defBody st) (defScope st) .none kV doc pm an cdv ct) ⟨us, []⟩ = pure (ps.zip us))
    (body : BodyT P w K mg base k N qual st b) : Fn P w K mg base (k + 1) x ps (fnD ps.length N.length b) := by
  obtain ⟨f, fd, F, gm⟩ := D
  exact ⟨f, fd, okT F S hnc hps body, gm, F.kp, F.binds bn⟩
theorem FnK.ofT {x qual : Str} {st : Stmt} {N ps : List Str} {k : Nat} {b : BF} (D : ∃ f fd, Fun K x qual st f fd ∧ mg x = some (.ref f)) (S : FnScope N ps (defScope st)) (hnc : ∀ y ∈ (defScope st).names, y.2 ≠ .cell) (hps : 1 ≤ ps.length)
    (bk : ∀ (kV doc pm : Value) (an : Option Addr) (cdv ct : Value) (us : List Value), us.length = ps.length → bindArgs (PySem.W.fnOf x qual (defArgs st) (defBody st) (defScope st) .none kV doc pm an cdv ct) ⟨[], ps.zip us⟩ = pure (ps.zip us))
    (body : BodyT P w K mg base k N qual st b) : FnK P w K mg base (k + 1) x ps (fnD ps.length N.length b) := by
  obtain ⟨f, fd, F, gm⟩ := D
  refine ⟨f, fd, okT F S hnc hps body, gm, F.kp, ?_⟩
  obtain ⟨oc, od, kV, doc, pm, an, cdv, ct, osl, rfl, lk, hcd⟩ := F.ex
  exact fun us hl => bk kV doc pm an cdv ct us hl
/-- a def that calls itself, so deep -/
def fnever : FD := fun _ _ => none
def recD (g : FD → FD) : Nat → FD
  | 0 => fnever
  | n + 1 => g (recD g n)
theorem Fn.never {x qual : Str} {st : Stmt} {ps : List Str} {k : Nat} (D : ∃ f fd, Fun K x qual st f fd ∧ mg x = some (.ref f))
    (bn : ∀ (kV doc pm : Value) (an : Option Addr) (cdv ct : Value) (us : List Value), us.length = ps.length → bindArgs (PySem.W.fnOf x qual (defArgs st) (defBody st) (defScope st) .none kV doc pm an cdv ct) ⟨us, []⟩ = pure (ps.zip us)) : Fn P w K mg base k x ps fnever := by
  obtain ⟨f, fd, F, gm⟩ := D
  have no : ∀ {vs H Q E}, spD K fnever vs H Q E → False := fun {vs H Q E} h => by
    obtain ⟨_, _, _, _, _, _, _, _, h, _⟩ := h
    cases h
  exact ⟨f, fd, ⟨fun vs H Q E h => (no h).elim, fun A outer s H args us vs Q E _ _ _ _ h => (no h).elim⟩, gm, F.kp, F.binds bn⟩
theorem Fn.deep {x : Str} {ps : List Str} {k : Nat} {g : FD → FD} (h0 : Fn P w K mg base k x ps fnever) (step : ∀ (n : Nat) (f : FD), Fn P w K mg base (k + n) x ps f → Fn P w K mg base (k + n + 1) x ps (g f)) : ∀ n, Fn P w K mg base (k + n) x ps (recD g n)
  | 0 => h0
  | n + 1 => step n _ (Fn.deep h0 step n)
end
end VI
end
section
namespace VI
open PySem PySem.Spec PyProof.Rows L2
section
variable {X : Cx} {a b c e f o tg : Expr} {es : List Expr} {pos p apos cpos : Pos} {fa fb fe ff fo fi : EF} {fr : AF} {x name : Str}
variable {F : Hp} {φ : List Addr} {m : Mem} {H : Hp}
/-! ### lists and tuples, whichever -/
def seqD (m : Mem) : D → Option (List D)
  | .lst ds => some ds
  | .tup ds => some ds
  | .lsk ds => some ds
  | .cell c => match m[c]? with
    | some (.lst ds) => some ds
    | _ => none
  | _ => none
theorem seqD_ok {d : D} {ds : List D} {v : V} (rp : Rep X.K F φ m H) (r : VR X.K F φ d v) (h : seqD m d = some ds) : ∃ q vs, v = .ref q ∧ (SqL X.K H q vs ∨ SqT X.K H q vs) ∧ VRs X.K F φ ds vs ∧ ((∃ es, d = .tup es) → SqT X.K H q vs) ∧ ((∀ es, d ≠ .tup es) → SqL X.K H q vs) := by
  unfold seqD at h
  split at h
  · cases h
    cases r with
    | lst hq rv => exact ⟨_, _, rfl, .inl (SqL.of (rp.ex _ _ hq)), rv, (fun ⟨_, e⟩ => nomatch e), fun _ => SqL.of (rp.ex _ _ hq)⟩
  · cases h
    cases r with
    | tup hq rv => exact ⟨_, _, rfl, .inr (Evl.ex_t rp.ex hq), rv, fun _ => Evl.ex_t rp.ex hq, fun h => (h _ rfl).elim⟩
  · cases h
    cases r with
    | lsk hq rv => exact ⟨_, _, rfl, .inl (Evl.ex_l rp.ex hq), rv, (fun ⟨_, e⟩ => nomatch e), fun _ => Evl.ex_l rp.ex hq⟩
  · split at h
    · rename_i c ds hm
      cases h
      cases r with
      | cell hp =>
        obtain ⟨_, o, ho, vs, rfl, rv⟩ := rp.cell _ _ _ hm (fun e => nomatch e) hp
        exact ⟨_, _, rfl, .inl (SqL.of ho), rv, (fun ⟨_, e⟩ => nomatch e), fun _ => SqL.of ho⟩
    · cases h
  · cases h
def bTup : Mem → List D → Option D
  | _, [.tup ds] => some (.tup ds)
  | m, [d] => match seqD m d with
    | some ds => some (.tup ds)
    | none => none
  | _, _ => none
theorem cb_tuple : CB X (.type "tuple") bTup := by
  intro F φ m H ds d vs rp rv h Q q
  unfold bTup at h
  split at h
  · cases h
    obtain ⟨v, rfl, r⟩ := rv.one
    have r' := r
    cases r with
    | tup hq rvs => exact ⟨_, call_tuple_of, _, _, rfl, .inr ⟨Evl.ex_t rp.ex hq, q _ _ _ _ (Nxt.refl rp) r'⟩⟩
  · rename_i d' hne
    split at h
    · rename_i ds hs
      cases h
      obtain ⟨v, rfl, r⟩ := rv.one
      obtain ⟨a, vs, rfl, _, rvs, _, hl⟩ := seqD_ok rp r hs
      refine ⟨_, call_tuple_of, _, _, rfl, .inl ⟨hl fun es e => hne es (by rw [e]), fun l hp => ?_⟩⟩
      have n := rp.frozen (o := .tup vs) hp
      exact q _ _ _ _ n (.tup (SqT.of upd_same) (rvs.mono n.exF n.pre))
    · cases h
  · cases h
/-- list(x), never changed behind it -/
def bLst : Mem → List D → Option D
  | m, [d] => match seqD m d with
    | some ds => some (.lst ds)
    | none => none
  | _, _ => none
theorem cb_list : CB X (.type "list") bLst := by
  intro F φ m H ds d vs rp rv h Q q
  unfold bLst at h
  split at h
  · split at h
    · rename_i ds hs
      cases h
      obtain ⟨v, rfl, r⟩ := rv.one
      obtain ⟨a, vs, rfl, hq, rvs, _⟩ := seqD_ok rp r hs
      refine ⟨_, call_list_of, _, _, rfl, hq, fun l hp => ?_⟩
      have n := rp.frozen (o := .lst vs) hp
      exact q _ _ _ _ n (.lst upd_same (rvs.mono n.exF n.pre))
    · cases h
  · cases h
/-- list(x), a list that is changed -/
def eLstC (fe : EF) : EF := fun ρ m => match fe ρ m with
  | some (d, m1) => match seqD m1 d with
    | some ds => some (.cell m1.length, m1 ++ [.lst ds])
    | none => none
  | none => none
theorem j_lstC (hm : X.mg "list" = none) (he : JE X e fe) (hg : Gl X "list" := by rfl) (hs : starEach [e] X.env = (false, eval e X.env) :: starEach [] X.env := by rfl) (hpl : (backTo pos (starEach [] X.env)).any (·.1) = false := by rfl) : JE X (.Call (.Name "list" p) [e] [] pos) (eLstC fe) := ⟨fun {F φ m H ρ σ d m'} rp er hf Q q => by
  unfold eLstC at hf
  split at hf
  · rename_i d1 m1 h1
    split at hf
    · rename_i ds hd
      cases hf
      refine we_of (pe_callTy call_list_of hg hm (by decide +kernel) pa_w (by decide) (by decide) hs hpl) ((ja_cons (X := X) he ja_nil hs).run rp er (ds := [d1]) (m' := m1) (by simp only [aCons, h1, aNil]) _ fun F1 φ1 vs H1 n1 r1 => ?_)
      obtain ⟨v, rfl, r⟩ := r1.one
      obtain ⟨a, vs, rfl, hq, rvs, _⟩ := seqD_ok n1.rep r hd
      refine ⟨_, _, rfl, hq, fun l hp => ?_⟩
      have n := n1.rep.alloc (x := .lst ds) (o := .lst vs) hp (fun e => nomatch e) ⟨_, rfl, rvs⟩
      refine q _ _ _ _ (n1.trans n) (.cell ?_)
      rw [← n1.rep.len, List.getElem?_append_right (Nat.le_refl _), Nat.sub_self]
      rfl
    · cases hf
  · cases hf⟩
/-! sums of ints, all of truths -/
def toInts : List D → Option (List Int)
  | [] => some []
  | .int i :: r => match toInts r with
    | some is => some (i :: is)
    | none => none
  | _ => none
theorem toInts_eq : ∀ {ds : List D} {is : List Int}, toInts ds = some is → ds = is.map D.int
  | [], _, h => by cases h; rfl
  | .int i :: r, _, h => by
    unfold toInts at h
    split at h
    · rename_i js e
      cases h
      rw [toInts_eq e]
      rfl
    · cases h
  | .non :: _, _, h => by cases h
  | .bl _ :: _, _, h => by cases h
  | .str _ :: _, _, h => by cases h
  | .tup _ :: _, _, h => by cases h
  | .lst _ :: _, _, h => by cases h
  | .lsk _ :: _, _, h => by cases h
  | .cell _ :: _, _, h => by cases h
  | .ty _ :: _, _, h => by cases h
def bSum : Mem → List D → Option D
  | _, [.lst ds] => match toInts ds with
    | some is => some (.int is.sum)
    | none => none
  | _, _ => none
theorem cb_sum (hc : X.calm = true) : CB X (.builtin "sum") bSum := by
  intro F φ m H ds d vs rp rv h Q q
  unfold bSum at h
  split at h
  · split at h
    · rename_i is e
      cases h
      obtain ⟨v, rfl, r⟩ := rv.one
      cases r with
      | lst hq rvs =>
        have e2 := toInts_eq e
        subst e2
        have e3 := rvs.ints_inv
        subst e3
        exact ⟨_, cr_sum hc, _, is, rfl, SqL.of (rp.ex _ _ hq), q _ _ _ _ (Nxt.refl rp) (.int _)⟩
    · cases h
  · cases h
end
end VI
end
section
namespace VI
open PySem PySem.Spec PyProof.Rows L2
section
variable {X : Cx} {a b c e f o tg : Expr} {es : List Expr} {pos p apos cpos : Pos} {fa fb fe ff fo fi : EF} {fr : AF} {x name : Str}
variable {F : Hp} {φ : List Addr} {m : Mem} {H : Hp}
/-! ### the truth of a value -/
def truD (m : Mem) : D → Option Bool
  | .non => some false
  | .bl b => some b
  | .int i => some (i != 0)
  | .str s => if s.length ≤ 16777216 then some (!s.isEmpty) else none
  | .lst ds => some (!ds.isEmpty)
  | .tup ds => some (!ds.isEmpty)
  | .lsk ds => some (!ds.isEmpty)
  | .cell i => match m[i]? with
    | some (.lst ds) => some (!ds.isEmpty)
    | some (.dct kvs) => some (!kvs.isEmpty)
    | _ => none
  | _ => none
theorem VRs.isEmpty {K : PySem.W.Frag} {ds : List D} {vs : List V} (r : VRs K F φ ds vs) : vs.isEmpty = ds.isEmpty := by
  cases r <;> rfl
theorem KR.isEmpty {K : PySem.W.Frag} {ds vs} (r : KR K F φ ds vs) : vs.isEmpty = ds.isEmpty := by
  cases r <;> rfl
theorem tru_D {d : D} {v : V} {k : Bool} (rp : Rep X.K F φ m H) (r : VR X.K F φ d v) (h : truD m d = some k) : TruV X.K v H k := by
  unfold truD at h
  split at h
  · cases h; cases r; rfl
  · cases h; cases r; rfl
  · cases h; cases r; rfl
  · rename_i s
    split at h
    · rename_i hl
      cases h
      cases r
      refine ⟨by rw [S_len]; exact hl, ?_⟩
      rw [S_len]
      cases s with
      | nil => rfl
      | cons c r =>
        show true = _
        rw [eq_comm, bne_iff_ne]
        rw [List.length_cons]
        omega
    · cases h
  · cases h
    cases r with
    | lst hq rv => exact .inl ⟨_, SqL.of (rp.ex _ _ hq), by rw [rv.isEmpty]⟩
  · cases h
    cases r with
    | tup hq rv => exact .inr (.inl ⟨_, Evl.ex_t rp.ex hq, by rw [rv.isEmpty]⟩)
  · cases h
    cases r with
    | lsk hq rv => exact .inl ⟨_, Evl.ex_l rp.ex hq, by rw [rv.isEmpty]⟩
  · split at h
    · rename_i i ds hm
      cases h
      cases r with
      | cell hp =>
        obtain ⟨_, o, ho, vs, rfl, rv⟩ := rp.cell _ _ _ hm (fun e => nomatch e) hp
        exact .inl ⟨_, SqL.of ho, by rw [rv.isEmpty]⟩
    · rename_i i kvs hm
      cases h
      cases r with
      | cell hp =>
        obtain ⟨_, o, ho, vs, rfl, rv⟩ := rp.cell _ _ _ hm (fun e => nomatch e) hp
        exact .inr (.inr ⟨_, ho, by rw [rv.isEmpty]⟩)
    · cases h
  · cases h
def tTr (fa : EF) : TF := fun ρ m => match fa ρ m with
  | some (d, m1) => match truD m1 d with
    | some k => some (k, m1)
    | none => none
  | none => none
theorem jt_tru (h : JE X a fa) (he : ∀ whole, isTrue a X.env whole = (do let v ← whole; standAt a.pos; holding [v] (truthy v)) := by intro _; rfl) : JT X a (tTr fa) := ⟨fun {F φ m H ρ σ bb m'} rp er hf Q q => by
  refine wt_of (pt_truth pe_w he) ?_
  unfold tTr at hf
  split at hf
  · rename_i d m1 h1
    split at hf
    · rename_i k hk
      cases hf
      exact h.run rp er h1 _ fun F1 φ1 vx H1 n1 r1 => ⟨_, tru_D n1.rep r1 hk, q _ _ _ n1⟩
    · cases hf
  · cases hf⟩
/-! ### pop, extend -/
def ePop (fo : EF) : EF := fun ρ m => match fo ρ m with
  | some (.cell c, m1) => match m1[c]? with
    | some (.lst ds) => match ds.getLast? with
      | some d => some (d, m1.set c (.lst ds.dropLast))
      | none => none
    | _ => none
  | _ => none
theorem VRs.last {K : PySem.W.Frag} {ds : List D} {vs : List V} {d : D} (r : VRs K F φ ds vs) (h : ds.getLast? = some d) : ∃ v, vs[vs.length - 1]? = some v ∧ VR K F φ d v := by
  rw [List.getLast?_eq_getElem?] at h
  obtain ⟨v, h1, h2⟩ := r.get h
  rw [r.len] at h1
  exact ⟨v, h1, h2⟩
theorem VRs.dropLast {K : PySem.W.Frag} {ds : List D} {vs : List V} (r : VRs K F φ ds vs) : VRs K F φ ds.dropLast vs.dropLast := by
  rw [List.dropLast_eq_take, List.dropLast_eq_take, r.len]
  exact r.take _
theorem j_pop (ho : JE X o fo) (hbase : attributeBase o "pop" X.env (eval o X.env) = eval o X.env := by rfl) (hline : (apos.endLine == cpos.line) = true := by rfl) : JE X (.Call (.Attribute o "pop" apos) [] [] cpos) (ePop fo) := ⟨fun {F φ m H ρ σ d m'} rp er hf Q q => by
  refine we_of (pe_bm0 PySem.F.plainAttrs_list PySem.F.slot_list_pop PySem.F.type_list_pop mt_pop pe_w hbase hline) ?_
  unfold ePop at hf
  split at hf
  · rename_i c m1 h1
    split at hf
    · rename_i ds hm
      split at hf
      · rename_i d1 hd
        cases hf
        refine ho.run rp er h1 _ fun F1 φ1 v H1 n1 r1 => ?_
        cases r1 with
        | @cell _ a hp =>
          obtain ⟨_, o1, ho1, vs, rfl, rv⟩ := n1.rep.cell _ _ _ hm (fun e => nomatch e) hp
          obtain ⟨y, hy, ry⟩ := rv.last hd
          refine ⟨.inl ⟨rfl, _, SqL.of ho1⟩, _, vs, y, rfl, rfl, ho1, hy, ?_⟩
          have n := n1.rep.write (y := O.lst ds.dropLast) (o := .lst vs.dropLast) hm (fun e => nomatch e) hp (fun e => nomatch e) ⟨_, rfl, rv.dropLast⟩
          exact q _ _ _ _ (n1.trans n) (ry.mono n.exF n.pre)
      · cases hf
    · cases hf
  · cases hf⟩
/-- xs.extend(e): e a list -/
def lstD (m : Mem) : D → Option (List D)
  | .lst ds => some ds
  | .cell c => match m[c]? with
    | some (.lst ds) => some ds
    | _ => none
  | _ => none
theorem lstD_ok {K : PySem.W.Frag} {d : D} {ds : List D} {v : V} (rp : Rep K F φ m H) (r : VR K F φ d v) (h : lstD m d = some ds) : ∃ q vs, v = .ref q ∧ H q = some (.lst vs) ∧ VRs K F φ ds vs := by
  unfold lstD at h
  split at h
  · cases h
    cases r with
    | lst hq rv => exact ⟨_, _, rfl, rp.ex _ _ hq, rv⟩
  · split at h
    · rename_i c ds hm
      cases h
      cases r with
      | cell hp =>
        obtain ⟨_, o, ho, vs, rfl, rv⟩ := rp.cell _ _ _ hm (fun e => nomatch e) hp
        exact ⟨_, _, rfl, ho, rv⟩
    · cases h
  · cases h
def eExt (fo fe : EF) : EF := fun ρ m => match fo ρ m with
  | some (.cell c, m1) => match m1[c]? with
    | some (.lst _) => match fe ρ m1 with
      | some (d, m2) => match m2[c]? with
        | some (.lst ds) => match lstD m2 d with
          | some es => if ds.length + es.length ≤ 16777216 then some (.non, m2.set c (.lst (ds ++ es))) else none
          | none => none
        | _ => none
      | none => none
    | _ => none
  | _ => none
theorem j_ext (ho : JE X o fo) (he : JE X e fe) (hbase : attributeBase o "extend" X.env (eval o X.env) = eval o X.env := by rfl)
    (hfew : ((backTo cpos (starEach [e] X.env)).all (fun x => !x.1) && (backToKw cpos (keywordEach [] X.env)).all (fun x => x.1.isSome)
      && decide ([e].length + ([] : List Keyword).length + (if ([] : List Keyword).isEmpty then 0 else 1) < 30)) = true := by rfl)
    (hline : (apos.endLine == cpos.line) = true := by rfl) (hs : starEach [e] X.env = (false, eval e X.env) :: starEach [] X.env := by rfl) (hplain : (backTo cpos (starEach [] X.env)).any (·.1) = false := by rfl) :
    JE X (.Call (.Attribute o "extend" apos) [e] [] cpos) (eExt fo fe) := ⟨fun {F φ m H ρ σ d m'} rp er hf Q q => by
  refine we_of (pe_bm PySem.F.plainAttrs_list PySem.F.slot_list_extend PySem.F.type_list_extend mt_extend pe_w pa_w hbase hfew hline hs hplain) ?_
  unfold eExt at hf
  split at hf
  · rename_i c m1 h1
    split at hf
    · rename_i ds0 hm0
      split at hf
      · rename_i d1 m2 h2
        split at hf
        · rename_i ds hm
          split at hf
          · rename_i es hes
            split at hf
            · rename_i hl
              cases hf
              refine ho.run rp er h1 _ fun F1 φ1 v H1 n1 r1 => ?_
              cases r1 with
              | @cell _ a hp =>
                obtain ⟨_, o1, ho1, vs1, rfl, rv1⟩ := n1.rep.cell _ _ _ hm0 (fun e => nomatch e) hp
                refine ⟨.inl ⟨rfl, _, SqL.of ho1⟩, ?_⟩
                refine (ja_cons (X := X) he ja_nil hs).run n1.rep (er.mono n1.exF n1.pre) (ds := [d1]) (m' := m2) (by simp only [aCons, h2, aNil]) _ fun F2 φ2 vs H2 n2 r2 => ?_
                obtain ⟨vy, rfl, ry⟩ := r2.one
                have hp2 := n2.pre _ _ hp
                obtain ⟨_, o2, ho2, vs2, rfl, rv2⟩ := n2.rep.cell _ _ _ hm (fun e => nomatch e) hp2
                obtain ⟨g, ws, rfl, hg, rw'⟩ := lstD_ok n2.rep ry hes
                refine ⟨a, g, vs2, ws, rfl, rfl, ho2, hg, by rw [← rv2.len, ← rw'.len]; exact hl, ?_⟩
                have n3 := n2.rep.write (y := O.lst (ds ++ es)) (o := .lst (vs2 ++ ws)) hm (fun e => nomatch e) hp2 (fun e => nomatch e) ⟨_, rfl, rv2.app rw'⟩
                exact q _ _ _ _ ((n1.trans n2).trans n3) .non
            · cases hf
          · cases hf
        · cases hf
      · cases hf
    · cases hf
  · cases hf⟩
/-! ### a display with a star -/
def aStar (fe : EF) (fr : AF) : AF := fun ρ m => match fe ρ m with
  | some (d, m1) => match seqD m1 d with
    | some ds => match fr ρ m1 with
      | some (es, m2) => some (ds ++ es, m2)
      | none => none
    | none => none
  | none => none
theorem ja_star (he : JE X e fe) (hr : JA X es fr) (hs : starEach (.Starred e p :: es) X.env = (true, eval e X.env) :: starEach es X.env := by rfl) : JA X (.Starred e p :: es) (aStar fe fr) := ⟨fun {F φ m H ρ σ ds m'} rp er hf Q q => by
  refine wa_of (StX.pa_star pe_w pa_w hs) ?_
  unfold aStar at hf
  split at hf
  · rename_i d m1 h1
    split at hf
    · rename_i ds1 hd
      split at hf
      · rename_i es1 m2 h2
        cases hf
        refine he.run rp er h1 _ fun F1 φ1 v H1 n1 r1 => ?_
        obtain ⟨a, vs, rfl, hq, rv, _⟩ := seqD_ok n1.rep r1 hd
        refine ⟨_, _, rfl, hq.symm, ?_⟩
        exact hr.run n1.rep (er.mono n1.exF n1.pre) h2 _ fun F2 φ2 ws H2 n2 r2 => q _ _ _ _ (n1.trans n2) ((rv.mono n2.exF n2.pre).app r2)
      · cases hf
    · cases hf
  · cases hf⟩
/-- a display, how many it may be -/
def aFew (fr : AF) : AF := fun ρ m => match fr ρ m with
  | some (ds, m1) => if ds.length ≤ 16777216 then some (ds, m1) else none
  | none => none
theorem ja_few (h : JA X es fr) : JA X es (aFew fr) := ⟨fun {F φ m H ρ σ ds m'} rp er hf Q q => by
  unfold aFew at hf
  split at hf
  · split at hf
    · rename_i h1 _
      cases hf
      exact h.run rp er h1 Q q
    · cases hf
  · cases hf⟩
theorem few_few : Few (aFew fr) := fun ρ m ds m' h => by
  unfold aFew at h
  split at h
  · split at h
    · rename_i hl
      cases h
      exact hl
    · cases h
  · cases h
/-! ### f-strings of texts -/
abbrev JsF := Env → Mem → Option (List Nat × Mem)
/-- what is written so far, then the parts -/
def jsNil (acc : List Nat) : JsF := fun _ m => some (acc, m)
def jsV : List EF → List Nat → JsF
  | [], acc => fun _ m => some (acc, m)
  | f :: fs, acc => fun ρ m => match f ρ m with
    | some (.str s, m1) => if acc.length + s.length ≤ 16777216 then jsV fs (acc ++ s) ρ m1 else none
    | _ => none
def eFmt (fs : List EF) : EF := fun ρ m => match jsV fs [] ρ m with
  | some (s, m1) => some (.str s, m1)
  | none => none
/-- the parts: written texts, and texts in braces -/
inductive JJ (X : Cx) : List Expr → List EF → Prop where
  | nil : JJ X [] []
  | lit {c : Expr} {fc : EF} {es : List Expr} {fs : List EF} (h : JE X c fc) (r : JJ X es fs) : JJ X (c :: es) (fc :: fs)
/-- {x}, x a text -/
def eStr (fe : EF) : EF := fun ρ m => match fe ρ m with
  | some (.str s, m1) => if s.length ≤ 16777216 then some (.str s, m1) else none
  | _ => none
theorem j_fmtV (he : JE X e fe) : JE X (.FormattedValue e (-1) none pos) (eStr fe) := ⟨fun {F φ m H ρ σ d m'} rp er hf Q q => by
  refine we_of (pe_fmt pe_w) ?_
  unfold eStr at hf
  split at hf
  · rename_i s m1 h1
    split at hf
    · rename_i hl
      cases hf
      refine he.run rp er h1 _ fun F1 φ1 v H1 n1 r1 => ?_
      cases r1
      exact .inl ⟨_, rfl, by rw [S_len]; exact hl, q _ _ _ _ n1 (.str _)⟩
    · cases hf
  · cases hf⟩
def wes (X : Cx) (es : List Expr) : List TE := es.map fun e => WE X e
theorem pj_w : ∀ es : List Expr, PJ X es (wes X es)
  | [] => .nil
  | _ :: r => .cons pe_w (pj_w r)
theorem js_run {es : List Expr} {fs : List EF} (h : JJ X es fs) : ∀ {F φ m H ρ σ acc s m'}, Rep X.K F φ m H → EnvR X.K F φ ρ σ → jsV fs acc ρ m = some (s, m') → ∀ Q : Str → Hp → Prop, (∀ F' φ' H', Nxt X.K F φ m H F' φ' m' H' → Q (S s) H') → tJs (wes X es) (S acc) σ H Q := by
  induction h with
  | nil =>
    intro F φ m H ρ σ acc s m' rp er hf Q q
    cases hf
    exact q _ _ _ (Nxt.refl rp)
  | lit he r ih =>
    intro F φ m H ρ σ acc s m' rp er hf Q q
    unfold jsV at hf
    split at hf
    · rename_i t m1 h1
      split at hf
      · rename_i hl
        refine he.run rp er h1 _ fun F1 φ1 v H1 n1 r1 => ?_
        cases r1
        refine ⟨_, rfl, ?_, ?_⟩
        · rw [S_app, S_len, List.length_append]; exact hl
        · rw [S_app]
          exact ih n1.rep (er.mono n1.exF n1.pre) hf Q fun F2 φ2 H2 n2 => q _ _ _ (n1.trans n2)
      · cases hf
    · cases hf
theorem j_fmt {v1 v2 : Expr} {rest : List Expr} {fs : List EF} (h : JJ X (v1 :: v2 :: rest) fs) : JE X (.JoinedStr (v1 :: v2 :: rest) pos) (eFmt fs) := ⟨fun {F φ m H ρ σ d m'} rp er hf Q q => by
  refine we_of (pe_joined (pj_w _)) ?_
  unfold eFmt at hf
  split at hf
  · rename_i s m1 h1
    cases hf
    exact js_run h rp er h1 _ fun F1 φ1 H1 n1 => q _ _ _ _ n1 (.str _)
  · cases hf⟩
/-! ### xs[::-1] -/
def eRev (fe : EF) : EF := fun ρ m => match fe ρ m with
  | some (d, m1) => match lstD m1 d with
    | some ds => some (.lst ds.reverse, m1)
    | none => none
  | none => none
theorem j_rev {k : Nat} {p1 p2 p3 : Pos} (he : JE X e fe) : JE X (.Subscript e (.Slice none none (some (.UnaryOp .USub (.Constant (.int 1) k p1) p2)) p3) pos) (eRev fe) := ⟨fun {F φ m H ρ σ d m'} rp er hf Q q => by
  refine we_of (pe_revL pe_w) ?_
  unfold eRev at hf
  split at hf
  · rename_i d m1 h1
    split at hf
    · rename_i ds hd
      cases hf
      refine he.run rp er h1 _ fun F1 φ1 v H1 n1 r1 => ?_
      obtain ⟨g, ws, rfl, hg, rw'⟩ := lstD_ok n1.rep r1 hd
      refine ⟨_, _, rfl, SqL.of hg, fun l hp => ?_⟩
      have n := n1.rep.frozen (o := .lst ws.reverse) hp
      exact q _ _ _ _ (n1.trans n) (.lst upd_same (rw'.rev.mono n.exF n.pre))
    · cases hf
  · cases hf⟩
end
end VI
end
section
namespace VI
open PySem PySem.Spec PyProof.Rows L2
section
variable {prog : Program} {w : World} {A : Around} {E : Value → Shared → Prop} {s : Shared}
/-- a slice that says [::-1], of so many -/
theorem applied_rev {sl : Addr} {t : Tok} {n : Nat} {Q : Int × Int × Nat → Shared → Prop} (hs : s.heap.IsSliceOf sl .none .none (.int (-1) t)) (h : Q ((n : Int) - 1, -1, n) s) : wpAny (model prog w) A (Builtin.Slice.sliceApplied (.ref sl) (pure (n : Int))) Q E s := by
  obtain ⟨os, hos, hcs, hds⟩ := id hs
  unfold Builtin.Slice.sliceApplied Builtin.Slice.sliceFields
  refine wpAny_bind (wpAny_bind (wpAny_field hos hds (x := .none) rfl (wpAny_bind (wpAny_field hos hds (x := .none) rfl (wpAny_bind (wpAny_field hos hds (x := .int (-1) t) rfl (wpAny_pure ?_)))))))
  refine wpAny_bind (slicePart_int ?_)
  show wpAny _ _ (if ((-1 : Int) == 0) = true then _ else _) _ _ s
  rw [if_neg (by decide)]
  refine wpAny_bind (slicePart_none (wpAny_bind (slicePart_none (wpAny_bind (wpAny_pure ?_)))))
  show wpAny _ _ (match Builtin.Slice.sliceAdjust none none (-1) (n : Int) with | (lo, hi) => pure (lo, (-1 : Int), Builtin.Slice.slicePlaces lo hi (-1))) _ _ s
  have e1 : Builtin.Slice.sliceAdjust none none (-1) (n : Int) = ((n : Int) - 1, -1) := rfl
  have e2 : Builtin.Slice.slicePlaces ((n : Int) - 1) (-1) (-1) = n := by
    unfold Builtin.Slice.slicePlaces
    rw [if_neg (by decide)]
    by_cases hn : (n : Int) - 1 > -1
    · rw [if_pos hn]
      have : ((n : Int) - 1 - -1 - 1) / (- -1) = (n : Int) - 1 := by
        rw [show (- -1 : Int) = 1 by decide, Int.ediv_one]
        omega
      rw [this]
      omega
    · rw [if_neg hn]
      omega
  rw [e1]
  show wpAny _ _ (pure ((n : Int) - 1, (-1 : Int), Builtin.Slice.slicePlaces ((n : Int) - 1) (-1) (-1))) _ _ s
  rw [e2]
  exact wpAny_pure h
theorem range_rev (n : Nat) : (List.range n).reverse = (List.range n).map fun k => n - 1 - k := by
  refine List.ext_getElem (by simp) fun i h1 h2 => ?_
  simp
theorem fm_congr {α β : Type} {f g : α → Option β} : ∀ {l : List α}, (∀ x ∈ l, f x = g x) → l.filterMap f = l.filterMap g
  | [], _ => rfl
  | a :: r, h => by
    have e := fm_congr (l := r) fun x hx => h x (List.mem_cons_of_mem _ hx)
    have ea := h a List.mem_cons_self
    rw [List.filterMap_cons, List.filterMap_cons, ea, e]
theorem pick_rev (xs : Array Value) : ((List.range xs.size).filterMap fun (k : Nat) => xs[((xs.size : Int) - 1 + (k : Int) * -1).toNat]?).toArray = xs.toList.reverse.toArray := by
  have e : (List.range xs.size).filterMap (fun (k : Nat) => xs[((xs.size : Int) - 1 + (k : Int) * -1).toNat]?) = ((List.range xs.size).map fun k => xs.size - 1 - k).filterMap (xs[·]?) := by
    rw [List.filterMap_map]
    refine fm_congr fun k hk => ?_
    have : ((xs.size : Int) - 1 + (k : Int) * -1).toNat = xs.size - 1 - k := by
      have := List.mem_range.mp hk
      omega
    show xs[((xs.size : Int) - 1 + (k : Int) * -1).toNat]? = xs[xs.size - 1 - k]?
    rw [this]
  rw [e, ← range_rev, List.filterMap_reverse]
  have g := pick_run xs 0 xs.size
  rw [show ((0 + ·) : Nat → Nat) = id from funext fun k => Nat.zero_add k, List.map_id, List.drop_zero, List.take_of_length_le (by rw [Array.length_toList]; exact Nat.le_refl _)] at g
  rw [g]
theorem tuple_rev {t sl : Addr} {its : Array Value} {tk : Tok} {Q : Value → Shared → Prop} (ht : IsTup s.heap t its) (hs : s.heap.IsSliceOf sl .none .none (.int (-1) tk)) (hz : its.size ≤ sizeLine)
    (h : Q (.ref s.heap.objs.size) { s with heap := s.heap.push { cls := .type "tuple", data := .seq its.toList.reverse.toArray } }) : wpAny (model prog w) A (getItem (.ref t) (.ref sl)) Q E s := by
  have hok : sizeOk (.seq its.toList.reverse.toArray) := by
    show its.toList.reverse.toArray.size ≤ sizeLine
    rw [List.size_toArray, List.length_reverse, Array.length_toList]
    exact hz
  obtain ⟨os, hos, hcs, hds⟩ := id hs
  have hT : s.TypeIs (.ref sl) "slice" := ⟨os, hos, hcs⟩
  unfold getItem
  try with_reducible refine wpAny_holding ?_
  first | refine wpAny_bind (wpAny_pure ?_) | skip
  refine wpAny_bind (wpAny_sequenceKey ht.typeIs (by decide) ?_)
  refine wpAny_bind (wpAny_callSpecial?_slot (name := Str.ofString "__getitem__") ht.typeIs PyProof.Rows.slot_tuple_getitem (wpAny_call_entry PyProof.Rows.slot_tuple_getitem ht.typeIs entry_tuple_getitem ?_ (args_tuple_getitem _ _)))
  show wpAny _ _ (Builtin.Tuple.tupleItemsOf (.ref t) >>= _) _ _ s
  refine wpAny_bind (tupleItemsOf_ ht ?_)
  refine wpAny_bind (wpAny_typeOf hT ?_)
  rw [if_pos (by decide)]
  refine wpAny_bind (applied_rev hs ?_)
  show wpAny _ _ (if (((its.size : Int) - 1 == 0 && (-1 : Int) == 1) && its.size == its.size) = true then _ else _) _ _ s
  rw [if_neg (by rw [show ((-1 : Int) == 1) = false by decide, Bool.and_false, Bool.false_and]; exact Bool.false_ne_true), pick_rev]
  first
    | exact wpAny_bind (m := Builtin.Tuple.tupleExact _) (wpAny_newObj_type (wpAny_pure ⟨_, rfl, wpAny_pure h⟩) hok)
    | exact wpAny_bind (m := Builtin.Tuple.tupleExact _) (wpAny_newObj_type (wpAny_bind (wpAny_pure (wpAny_pure ⟨_, rfl, wpAny_pure h⟩))) hok)
    | exact wpAny_bind (wpAny_bind (m := Builtin.Tuple.tupleExact _) (wpAny_newObj_type (wpAny_pure (wpAny_pure ⟨_, rfl, wpAny_pure h⟩)) hok))
    | exact wpAny_bind (wpAny_bind (m := Builtin.Tuple.tupleExact _) (wpAny_newObj_type (wpAny_pure ⟨_, rfl, wpAny_pure h⟩) hok))
end
section
variable {X : Cx} {e : Expr} {pos : Pos} {fe : EF} {te : TE}
def tRevT (K : PySem.W.Frag) (te : TE) : TE := fun σ H Q => te σ H fun x H1 => ∃ a xs, x = .ref a ∧ SqT K H1 a xs ∧ ∀ p, H1 p = none → Q (.ref p) (upd H1 p (.tup xs.reverse))
theorem pe_revT {k : Nat} {p1 p2 p3 : Pos} (he : PE X e te) : PE X (.Subscript e (.Slice none none (some (.UnaryOp .USub (.Constant (.int 1) k p1) p2)) p3) pos) (tRevT X.K te) := by
  refine ⟨fun pins s σ H Q I h => Subscript_ (thn (he.run pins s σ H _ I h) fun v s1 ⟨x, H1, I1, r1, a, xs, ex, hx, q⟩ => ?_)⟩
  subst ex
  cases r1
  have step : PO X (some (.UnaryOp .USub (.Constant (.int 1) k p1) p2)) (tPart (tUn (rU fun i => .int (-i)) (tC (.int 1)))) := po_some (pe_un un_neg pe_int)
  refine wpAny_Slice (thn (po_none.run pins s1 σ H1 (fun o G => o = none ∧ G = H1) I1 ⟨rfl, rfl⟩) fun vl s2 ⟨l, H2, I2, pl, el, e2⟩ => ?_)
  subst el e2
  refine thn (po_none.run pins s2 σ H2 (fun o G => o = none ∧ G = H2) I2 ⟨rfl, rfl⟩) fun vu s3 ⟨u, H3, I3, pu, eu, e3⟩ => ?_
  subst eu e3
  refine thn (step.run pins s3 σ H3 (fun o G => o = some (-1) ∧ G = H3) I3 ⟨1, rfl, -1, rfl, rfl, rfl⟩) fun vs s4 ⟨o, H4, I4, ps, eo, e4⟩ => ?_
  subst eo e4
  cases pl
  cases pu
  cases ps with
  | int i t =>
    have I5 : Inv X pins σ H4 { s4 with heap := s4.heap.push { cls := .type "slice", data := .fields #[.none, .none, .int (-1) t] } } := I4.kept (t' := s4.toks) fun b ob q => Heap.get?_push_of_some _ q
    obtain ⟨its, r, ht, hz⟩ := I5.tuple hx
    have hlen := r.length
    show wpAny (model X.prog X.w) X.A (subscriptTail e (.Slice none none (some (.UnaryOp .USub (.Constant (.int 1) k p1) p2)) p3) (.ref a) (.ref s4.heap.objs.size)) (EP X pins σ Q) X.xe { s4 with heap := s4.heap.push { cls := .type "slice", data := .fields #[.none, .none, .int (-1) t] } }
    refine tail_any (ops := [.ref a, .ref s4.heap.objs.size]) ht.typeIs PyProof.Rows.slot_tuple_getitem.lookup ?_ (by with_unfolding_all rfl)
    refine tuple_rev ht (Heap.IsSliceOf.new _ .none .none (.int (-1) t)) (by rw [List.size_toArray]; omega) ?_
    refine ⟨.ref _, _, I5.laid (t' := s4.toks) (o := .tup xs.reverse) (fun b ob q => Heap.get?_push_of_some _ q) (Nat.le_refl _) ?_, rfl, q _ (I5.hok.fresh (Nat.le_refl _))⟩
    exact ⟨by rw [List.length_reverse]; exact hz, _, r.reverse, IsTup.new _ _⟩
def eRevT (fe : EF) : EF := fun ρ m => match fe ρ m with
  | some (.tup ds, m1) => some (.tup ds.reverse, m1)
  | _ => none
theorem j_revT {k : Nat} {p1 p2 p3 : Pos} (he : JE X e fe) : JE X (.Subscript e (.Slice none none (some (.UnaryOp .USub (.Constant (.int 1) k p1) p2)) p3) pos) (eRevT fe) := ⟨fun {F φ m H ρ σ d m'} rp er hf Q q => by
  refine we_of (pe_revT pe_w) ?_
  unfold eRevT at hf
  split at hf
  · rename_i ds m1 h1
    cases hf
    refine he.run rp er h1 _ fun F1 φ1 v H1 n1 r1 => ?_
    cases r1 with
    | @tup _ _ vs hq rv =>
      refine ⟨_, _, rfl, Evl.ex_t n1.rep.ex hq, fun l hp => ?_⟩
      have n := n1.rep.frozen (o := .tup vs.reverse) hp
      exact q _ _ _ _ (n1.trans n) (.tup (SqT.of upd_same) (rv.rev.mono n.exF n.pre))
  · cases hf⟩
end
end VI
end
section
set_option maxHeartbeats 1000000
namespace VI
open PySem PySem.Spec PyProof.Rows L2
theorem plain_tnew : plainId "tuple.__new__" = true := by decide +kernel
section
variable {prog : Program} {w : World} {K : Type} [DecidableEq K] {knd : PySem.KeyKind prog w K} {A : Around} {E : Value → Shared → Prop} {s : Shared} {r d : Addr} {kvs : List (K × Value)} {ep : Nat}
theorem tnew_items {Q : Value → Shared → Prop} (hh : A.handled = none) (hv : s.heap.IsItemsView r d) (hm : s.heap.DictAt knd d kvs ep) (hn : kvs.length ≤ sizeLine)
    (h : ∀ (h' : Heap) (tk : Nat) (as : List Addr), (∀ b o, s.heap.get? b = some o → h'.get? b = some o) → as.length = kvs.length → PySem.W.KdxG knd kvs s.heap.objs.size h' as →
      Q (.ref h'.objs.size) { s with heap := h'.push { cls := .type "tuple", data := .seq (as.map Value.ref).toArray }, toks := tk }) :
    codeAny (model prog w) A (.call (.builtin "tuple.__new__") ⟨[.type "tuple", .ref r], []⟩) (wants Q E) s := by
  have hr := id hv
  obtain ⟨ov, hov, hcv, _⟩ := hr
  have hT : s.TypeIs (.ref r) "dict_items" := ⟨ov, hov, hcv⟩
  refine codeAny_of_tree ?_
  show wpAny _ A.in1 (do checkBuiltinCall "tuple.__new__" ⟨[.type "tuple", .ref r], []⟩; again (.builtin "tuple.__new__" ⟨[.type "tuple", .ref r], []⟩)) _ _ s
  refine wpAny_bind (wpAny_of_eq (F.newCall_tuple_1 _) (wpAny_pure ⟨plainId_quiet plain_tnew _, codeAny_builtin F.entry_tuple_new ?_⟩))
  rw [Around.under_plainId plain_tnew _]
  have k1 := sub_tuple_self; have k2 := init_tuple_lookup; have k3 := madeHere_tuple
  have col : ∀ {R : List Value → Shared → Prop} {E' : Value → Shared → Prop}, (∀ (h' : Heap) (tk : Nat) (as : List Addr), (∀ b o, s.heap.get? b = some o → h'.get? b = some o) → as.length = kvs.length → PySem.W.KdxG knd kvs s.heap.objs.size h' as → R (as.map Value.ref) { s with heap := h', toks := tk }) →
      wpAny (model prog w) A.in1 (collect (.ref r)) R E' s := fun hR => PySem.W.kdx_collect (A := A.in1) hh hv hm hn hR
  wp_walk using wpAny_typeOf hT, col
  intro h' tk as hk hl hG
  show wpAny _ _ (Builtin.Tuple.tupleExact (as.map Value.ref).toArray >>= fun v => ret v) _ _ _
  unfold Builtin.Tuple.tupleExact
  refine wpAny_bind (wpAny_newObj_type ?_ (by show (as.map Value.ref).toArray.size ≤ sizeLine; rw [List.size_toArray, List.length_map, hl]; exact hn))
  exact wpAny_pure (h h' tk as hk hl hG)
theorem call_tupItems {Q : Value → Shared → Prop} (hh : A.handled = none) (hv : s.heap.IsItemsView r d) (hm : s.heap.DictAt knd d kvs ep) (hn : kvs.length ≤ sizeLine)
    (h : ∀ (h' : Heap) (tk : Nat) (as : List Addr), (∀ b o, s.heap.get? b = some o → h'.get? b = some o) → as.length = kvs.length → PySem.W.KdxG knd kvs s.heap.objs.size h' as →
      Q (.ref h'.objs.size) { s with heap := h'.push { cls := .type "tuple", data := .seq (as.map Value.ref).toArray }, toks := tk }) :
    wpAny (model prog w) A (call (.type "tuple") [.ref r]) Q E s := by
  refine callType_codes (Q₁ := fun o s1 => s1.TypeIs o "tuple" ∧ Q o s1) F.called_tuple (F.typeCall_tuple_1 _) F.entry_object_init (tnew_items (A := A.in1) hh hv hm hn fun h' tk as hk hl hG => ⟨⟨_, Heap.get?_push_size _ rfl, rfl⟩, h h' tk as hk hl hG⟩) fun o s1 g => ?_
  exact ⟨g.1, F.args_object_init_2 o _, object_init_meets F.called_tuple.init.lookup F.called_tuple.made (by decide) prog w A.in1 _ s1 ⟨g.1, rfl, g.2⟩⟩
end
section
variable {X : Cx} {pins : List (Addr × Obj)} {σ : L2.St} {H : Hp} {s : Shared}
/-- the pairs' tuples, just made, are tracked -/
theorem pairs_laid {h' : Heap} {tk : Nat} {kvs : List (Key × V)} {vs : List (Key × Value)} {as : List Addr} (I : Inv X pins σ H s) (kv : KV kvs vs) (hk : ∀ b o, s.heap.get? b = some o → h'.get? b = some o) (hl : as.length = vs.length)
    (hG : PySem.W.KdxG (mixKind X.prog X.w) vs s.heap.objs.size h' as) :
    (∀ b o, H b = some o → LiI.putT H as kvs b = some o) ∧ (∀ t ∈ as, H t = none) ∧ (∀ b, b ∉ as → LiI.putT H as kvs b = H b) ∧ Paired (fun (t : Addr) (q : Key × V) => LiI.putT H as kvs t = some (.tup [kV q.1, q.2])) as kvs ∧ Inv X pins σ (LiI.putT H as kvs) { s with heap := h', toks := tk } := by
  have lk : kvs.length = vs.length := Paired.length kv
  have nd : as.Nodup := List.Pairwise.imp (fun {a b} (h : a < b) => Nat.ne_of_lt h) hG.rise
  have new : ∀ t ∈ as, H t = none := fun t ht => I.hok.fresh (Nat.le_of_lt (hG.above t ht))
  have tk' := LiI.putT_at as kvs H (by omega) nd
  have off : ∀ b, b ∉ as → LiI.putT H as kvs b = H b := fun b hb => LiI.putT_off as kvs _ hb
  have kp : ∀ b u, H b = some u → LiI.putT H as kvs b = some u := fun b u e => by
    rw [off b fun z => by rw [new b z] at e; cases e]; exact e
  refine ⟨kp, new, off, tk', ?_⟩
  have low : ∀ b o, s.heap.get? b = some o → b ∉ as := fun b o e z => absurd (Heap.lt_size e) (Nat.not_lt.mpr (Nat.le_of_lt (hG.above b z)))
  refine I.call' (ch := []) rfl ⟨fun b o q _ _ _ => hk b o q, fun b o q _ _ _ => ⟨o.slots, hk b o q⟩, fun b o q n _ => by rw [off b (low b o q)]; exact n, fun b o q _ => ⟨o, hk b o q⟩, fun b xs q => kp b _ q, fun b o u q => kp b _ q, fun b ps q => ⟨#[], by rw [kp b _ q]; simp⟩⟩ (fun b u q => ?_) I.bare fun b z => by simp at z
  by_cases hb : b ∈ as
  · obtain ⟨j, pk, e1, e2, e3⟩ := LiI.paired_ix tk' hb
    rw [e3] at q
    cases q
    obtain ⟨key, k, x, f1, f2, f3⟩ := hG.pairs j b e1
    obtain ⟨qv, g1, g2, g3⟩ := LiI.paired_get kv e2
    rw [f1] at g1
    cases g1
    have rk : RelV (kV pk.1) key := by rw [g2]; exact relV_key (show keyIs k key = true from f2)
    exact ⟨by show 2 ≤ sizeLine; decide, [key, x], .cons rk (.cons g3 .nil), ⟨_, f3, rfl, _, rfl⟩⟩
  · rw [off b hb] at q
    exact (I.hok b u q).stay (fun d v _ y => hk d v y) (fun d y => kp d _ y) fun d xs y => kp d _ y
end
section
variable {X : Cx} {e : Expr} {te : TE} {p apos cpos pos : Pos}
def tTupItems (te : TE) : TE := fun σ H Q => te σ H fun x H1 => ∃ (d : Addr) (kvs : List (Key × V)), x = .ref d ∧ H1 d = some (.dK kvs) ∧
  ∀ ts : List Addr, ts.Nodup → ts.length = kvs.length → (∀ t ∈ ts, H1 t = none) → ∀ q, LiI.putT H1 ts kvs q = none → Q (.ref q) (upd (LiI.putT H1 ts kvs) q (.tup (ts.map V.ref)))
theorem pe_tupItems (hc : X.calm = true) (he : PE X e te) (hg : Gl X "tuple") (hm : X.mg "tuple" = none) (hbase : attributeBase e "items" X.env (eval e X.env) = eval e X.env := by rfl) (hline : (apos.endLine == cpos.line) = true := by rfl)
    (hs : starEach [.Call (.Attribute e "items" apos) [] [] cpos] X.env = (false, eval (.Call (.Attribute e "items" apos) [] [] cpos) X.env) :: starEach [] X.env := by rfl) :
    PE X (.Call (.Name "tuple" p) [.Call (.Attribute e "items" apos) [] [] cpos] [] pos) (tTupItems te) := by
  refine ⟨fun pins s σ H Q I hq => wpAny_Call_Name_kw (ld_blt (u := .type "tuple") I hg hm (by decide +kernel) ?_)⟩
  refine PyProof.Rows.callWith_type1 ?_ hs rfl
  rw [hs]
  show wpAny _ _ (spliced ((false, eval (.Call (.Attribute e "items" apos) [] [] cpos) X.env) :: backTo pos (starEach [] X.env))) _ _ s
  refine Calls.spliced_cons (wpAny_Call_method (T := "dict") (id := "dict.items") hbase rfl hline F.plainAttrs_dict F.slot_dict_items F.type_dict_items (thn (he.run pins s σ H _ I hq) fun u s1 ⟨x, H1, I1, rx, d, kvs, ex, hd, q⟩ => ?_))
  subst ex
  cases rx
  obtain ⟨hz, hs0, vs, kv, hdo⟩ := I1.hok d _ hd
  obtain ⟨ep, hat⟩ := hdo.dictAt
  have lk : kvs.length = vs.length := Paired.length kv
  have I2 : Inv X pins σ H1 { s1 with heap := s1.heap.push { cls := .type "dict_items", data := .fields #[.ref d] } } := I1.kept (t' := s1.toks) fun b ob q => Heap.get?_push_of_some _ q
  refine ⟨hdo.typeIs, hdo.mapOf.noDict, ?_⟩
  show wpAny _ _ (callWith cpos (.builtin "dict.items") [.ref d] [] []) _ X.xe s1
  refine method_meetsIn F.slot_dict_items F.entry_dict_items rfl (PySem.evalArgs_none ⟨rfl, hdo.typeIs, F.args_dict_items_1 _, _, meets_dict_items (mixKind X.prog X.w) d hs0, ⟨vs, hdo⟩, Calls.spliced_nil ?_⟩)
  refine call_tupItems (knd := mixKind X.prog X.w) (kvs := vs) (ep := ep) (I1.ok.hd hc) ⟨_, Heap.get?_push_size _ rfl, rfl, rfl⟩ (hat.push _) (by omega) fun h' tk as hk hl hG => ?_
  obtain ⟨k1, k2, k3, k4, J⟩ := pairs_laid (tk := tk) I2 kv hk hl hG
  have la : as.length = kvs.length := by omega
  have nd : as.Nodup := List.Pairwise.imp (fun {a b} (h : a < b) => Nat.ne_of_lt h) hG.rise
  refine ⟨.ref _, _, J.laid (t' := tk) (o := .tup (as.map V.ref)) (fun b ob z => Heap.get?_push_of_some _ z) (Nat.le_refl _) ?_, rfl, q as nd la k2 _ (J.hok.fresh (Nat.le_refl _))⟩
  exact ⟨by rw [List.length_map, la]; exact hz, _, LiI.vals_refs as, IsTup.new _ _⟩
end
section
variable {X : Cx} {e : Expr} {fe : EF} {p apos cpos pos : Pos}
/-- a key, as a value -/
def kD : Key → D
  | .inl i => .int i
  | .inr x => .str x.cps.toList
theorem vr_key {K : PySem.W.Frag} {F : Hp} {φ : List Addr} : ∀ k : Key, VR K F φ (kD k) (kV k)
  | .inl i => .int i
  | .inr x => by
    show VR K F φ (.str x.cps.toList) (.str x)
    have e : V.str x = V.str (S x.cps.toList) := by rw [S_mk]
    rw [e]
    exact .str _
def pairD (kv : Key × D) : D := .tup [kD kv.1, kv.2]
theorem pairs_frozen {K : PySem.W.Frag} {φ : List Addr} {m : Mem} : ∀ {ds : List (Key × D)} {vs : List (Key × V)} {ts : List Addr} {F H : Hp}, Rep K F φ m H → KR K F φ ds vs → ts.length = vs.length → ts.Nodup → (∀ t ∈ ts, H t = none) →
    ∃ F', Nxt K F φ m H F' φ m (LiI.putT H ts vs) ∧ VRs K F' φ (ds.map pairD) (ts.map V.ref)
  | _, _, [], F, H, rp, .nil, _, _, _ => ⟨F, Nxt.refl rp, .nil⟩
  | _, _, _ :: _, F, H, rp, .nil, hl, _, _ => by cases hl
  | _, _, [], F, H, rp, .cons _ _, hl, _, _ => by cases hl
  | _, _, t :: ts, F, H, rp, .cons (k := k) (d := d) (v := v) (vs := vs) h r, hl, nd, hn => by
    have n1 := rp.frozen (o := .tup [kV k, v]) (hn t List.mem_cons_self)
    have nd' := List.nodup_cons.mp nd
    obtain ⟨F', n2, r2⟩ := pairs_frozen n1.rep (r.mono n1.exF n1.pre) (Nat.succ.inj hl) nd'.2 (fun u hu => by
      have z : u ≠ t := fun z => by subst z; exact nd'.1 hu
      rw [upd_ne z]; exact hn u (List.mem_cons_of_mem _ hu))
    refine ⟨F', n1.trans n2, .cons ?_ r2⟩
    exact .tup (SqT.of (n2.exF _ _ upd_same)) (.cons (vr_key k) (.cons (h.mono (n1.trans n2).exF (n1.trans n2).pre) .nil))
def eTupItems (fe : EF) : EF := fun ρ m => match fe ρ m with
  | some (.cell c, m1) => match m1[c]? with
    | some (.dct kvs) => some (.tup (kvs.map pairD), m1)
    | _ => none
  | _ => none
theorem j_tupItems (hc : X.calm = true) (hm : X.mg "tuple" = none) (he : JE X e fe) (hg : Gl X "tuple" := by rfl) (hbase : attributeBase e "items" X.env (eval e X.env) = eval e X.env := by rfl) (hline : (apos.endLine == cpos.line) = true := by rfl)
    (hs : starEach [.Call (.Attribute e "items" apos) [] [] cpos] X.env = (false, eval (.Call (.Attribute e "items" apos) [] [] cpos) X.env) :: starEach [] X.env := by rfl) :
    JE X (.Call (.Name "tuple" p) [.Call (.Attribute e "items" apos) [] [] cpos] [] pos) (eTupItems fe) := ⟨fun {F φ m H ρ σ d m'} rp er hf Q q => by
  refine we_of (pe_tupItems hc pe_w hg hm hbase hline hs) ?_
  unfold eTupItems at hf
  split at hf
  · rename_i c m1 h1
    split at hf
    · rename_i kvs hk
      cases hf
      refine he.run rp er h1 _ fun F1 φ1 v H1 n1 r1 => ?_
      cases r1 with
      | cell hp =>
        obtain ⟨_, o, ho, vs, rfl, rv⟩ := n1.rep.cell _ _ _ hk (fun e => nomatch e) hp
        refine ⟨_, vs, rfl, ho, fun ts nd hl hn q' hq' => ?_⟩
        obtain ⟨F', n2, r2⟩ := pairs_frozen n1.rep rv hl nd hn
        have n3 := n2.rep.frozen (o := .tup (ts.map V.ref)) hq'
        exact q _ _ _ _ ((n1.trans n2).trans n3) (.tup (SqT.of upd_same) (r2.mono n3.exF n3.pre))
    · cases hf
  · cases hf⟩
end
end VI
end
section
namespace VI
open PySem PySem.Spec PyProof.Rows L2
section
variable {X : Cx} {a b c e f o tg : Expr} {es : List Expr} {pos p apos cpos : Pos} {fa fb fe ff fo fi : EF} {fr : AF} {x name : Str}
/-! ### xs == [] -/
theorem op_eqNil (hu : X.A.units < cLine) : OpR X (compareOp .Eq) (fun x y H Q => ∃ a b xs, x = .ref a ∧ y = .ref b ∧ SqL X.K H a xs ∧ SqL X.K H b [] ∧ Q (.bl xs.isEmpty) H) := by
  intro pins s σ H x y v u Q I rx ry h
  obtain ⟨a, b, xs, rfl, rfl, ha, hb, q⟩ := h
  cases rx
  cases ry
  obtain ⟨its, r, hl, _⟩ := I.list ha
  obtain ⟨its2, r2, hl2, _⟩ := I.list hb
  cases r2
  have fin : ∀ k : Bool, k = xs.isEmpty → EP X pins σ Q (.bool k) s := fun k e => ⟨.bl k, H, I, rfl, by rw [e]; exact q⟩
  cases r with
  | nil => exact SeqAt.RcAt.lists (e := fun _ => true) hl.isList hl2.isList rfl hu (fun j h1 _ => absurd h1 (Nat.not_lt_zero _)) _ _ _ _ (fin _ rfl)
  | cons _ _ => exact SeqAt.RcAt.lists_lengths hl.isList hl2.isList (by simp) hu _ _ _ _ (fin _ rfl)
def eEqNil (fa : EF) : EF := fun ρ m => match fa ρ m with
  | some (d, m1) => match lstD m1 d with
    | some ds => some (.bl ds.isEmpty, m1)
    | none => none
  | none => none
def rNilL (K : PySem.W.Frag) : R2 := fun x y H Q => ∃ a b xs, x = .ref a ∧ y = .ref b ∧ SqL K H a xs ∧ SqL K H b [] ∧ Q (.bl xs.isEmpty) H
theorem two_nil (ha : JE X a fa) {F φ m H ρ σ d m'} (rp : Rep X.K F φ m H) (er : EnvR X.K F φ ρ σ) (hf : eEqNil fa ρ m = some (d, m')) (Q : VK) (q : ∀ F' φ' v H', Nxt X.K F φ m H F' φ' m' H' → VR X.K F' φ' d v → Q v H') :
    tOp (rNilL X.K) (WE X a) (tLst tNil) σ H Q := by
  unfold eEqNil at hf
  split at hf
  · rename_i d1 m1 h1
    split at hf
    · rename_i ds hd
      cases hf
      refine ha.run rp er h1 _ fun F1 φ1 v H1 n1 r1 => ⟨Nat.zero_le _, fun p' hp => ?_⟩
      have n2 := n1.rep.frozen (o := .lst []) hp
      obtain ⟨g, ws, rfl, hg, rw'⟩ := lstD_ok n2.rep (r1.mono n2.exF n2.pre) hd
      refine ⟨_, _, _, rfl, rfl, SqL.of hg, SqL.of upd_same, ?_⟩
      rw [rw'.isEmpty]
      exact q _ _ _ _ (n1.trans n2) (.bl _)
    · cases hf
  · cases hf
theorem j_eqNil {lp : Pos} (hu : X.A.units < cLine) (ha : JE X a fa) : JE X (.Compare a [.Eq] [.List [] lp] pos) (eEqNil fa) := ⟨fun {F φ m H ρ σ d m'} rp er hf Q q =>
  we_of (pe_cmpR (op_eqNil hu) pe_w (pe_lst pa_nil) rfl) (two_nil ha rp er hf Q q)⟩
theorem jt_eqNil {lp : Pos} (hu : X.A.units < cLine) (ha : JE X a fa) : JT X (.Compare a [.Eq] [.List [] lp] pos) (tV (eEqNil fa)) := ⟨fun {F φ m H ρ σ bb m'} rp er hf Q q => by
  refine wt_of (pt_cmpR (op_eqNil hu) pe_w (pe_lst pa_nil) rfl) ?_
  unfold tV at hf
  split at hf
  · rename_i b' m1 h1
    cases hf
    refine two_nil ha rp er h1 _ fun F' φ' v H' n r => ?_
    cases r
    exact ⟨_, rfl, q _ _ _ n⟩
  · cases hf⟩
/-! ### d[k] = v -/
def gDix (fo fi : EF) : GF := fun d ρ m => match fo ρ m with
  | some (.cell c, m1) => match fi ρ m1 with
    | some (y, m2) => match toKey y with
      | some k => match m2[c]? with
        | some (.dct kvs) => if kvs.length < 16777216 then some (ρ, m2.set c (.dct (putKD kvs k d))) else none
        | _ => none
      | none => none
    | _ => none
  | _ => none
theorem toKey_V {K F φ} {y : D} {v : V} {k : Key} (h : toKey y = some k) (r : VR K F φ y v) : v = kV k := by
  unfold toKey at h
  split at h
  · cases h; cases r; rfl
  · cases h; cases r; rfl
  · cases h
theorem jg_dix (hu : X.A.units + 1 < cLine) (ho : JE X o fo) (hi : JE X e fi) (ha : ∀ v, assign (.Subscript o e pos) X.env v = (do
      let ov ← holding [v] (eval o X.env)
      let iv ← holding [v, ov] (eval e X.env)
      standAt pos
      holding [v, ov, iv] (setItem ov iv v)
      release [v, ov, iv] []) := by intro _; rfl) : JG X (.Subscript o e pos) (gDix fo fi) [] := ⟨fun {F φ m H ρ σ d v ρ' m'} rp er rv hf Q q => by
  refine wg_of (pg_sub pe_w pe_w (set_dict hu) ha) ?_
  unfold gDix at hf
  split at hf
  · rename_i c m1 e1
    split at hf
    · rename_i y m2 e2
      split at hf
      · rename_i k hk
        split at hf
        · rename_i kvs hm
          split at hf
          · rename_i hl
            cases hf
            refine ho.run rp er e1 _ fun F1 φ1 vo H1 n1 r1 => ?_
            refine hi.run n1.rep (er.mono n1.exF n1.pre) e2 _ fun F2 φ2 vi H2 n2 r2 => ?_
            have n := n1.trans n2
            have ek := toKey_V hk r2
            subst ek
            have r1' := r1.mono n2.exF n2.pre
            cases r1' with
            | @cell _ a hp =>
              obtain ⟨_, o, ho2, vs, rfl, r3⟩ := n2.rep.cell _ _ _ hm (fun e => nomatch e) hp
              have n3 := n2.rep.write (y := O.dct (putKD kvs k d)) (o := .dK (putK vs k v)) hm (fun e => nomatch e) hp (fun e => nomatch e) ⟨_, rfl, r3.put (rv.mono n.exF n.pre)⟩
              exact ⟨a, _, rfl, DPut.k ho2 (by rw [← r3.len]; exact hl), q _ _ _ _ (n.trans n3) (er.mono n.exF n.pre) (But.refl _ _)⟩
          · cases hf
        · cases hf
      · cases hf
    · cases hf
  · cases hf⟩
end
end VI
end
section
namespace VI
open PySem PySem.Spec PyProof.Rows L2
section
variable {X : Cx} {a b c e f o tg iter : Expr} {es : List Expr} {sts : List Stmt} {pos p apos cpos : Pos} {fa fb fe ff fo fi : EF} {fr : AF} {x y name : Str} {g : GF} {gs : GFs} {ws : List Nat} {f1 : BF}
/-! ### a, b = x, y -/
def bPar (i j : Nat) (fa fb : EF) : BF := fun ρ m => match fa ρ m with
  | some (u, m1) => match fb ρ m1 with
    | some (v, m2) => some (.nx ((ρ.set i (some u)).set j (some v)), m2)
    | none => none
  | none => none
theorem js_par (i j : Nat) {px py pt pt2 : Pos} {kt k2 : Nat} (hN : X.N.Nodup) (ha : JE X a fa) (hb : JE X b fb) (hc : X.calm = true := by rfl) (hi : X.N[i]? = some x := by rfl) (hj : X.N[j]? = some y := by rfl) (hij : i ≠ j := by decide)
    (hx : X.env.scope.names.lookup x = some .local := by rfl) (hy : X.env.scope.names.lookup y = some .local := by rfl)
    (hw : swappedStores [.Tuple [.Name x px, .Name y py] kt pt] (.Tuple [a, b] k2 pt2) X.env = pure (some [x, y]) := by rfl)
    (hs : swapsWithSole [.Tuple [.Name x px, .Name y py] kt pt] (.Tuple [a, b] k2 pt2) pos.line X.env = pure false := by rfl) (h1 : starEach [a, b] X.env = (false, eval a X.env) :: starEach [b] X.env := by rfl) (h2 : starEach [b] X.env = (false, eval b X.env) :: starEach [] X.env := by rfl) :
    JS X (.Assign [.Tuple [.Name x px, .Name y py] kt pt] (.Tuple [a, b] k2 pt2) pos) (bPar i j fa fb) := ⟨fun {F φ m H ρ σ r m'} rp er hf D q => by
  refine ws_of (ps_par hc hN hi hj hij hx hy pa_w hw hs) ?_
  unfold bPar at hf
  split at hf
  · rename_i u m1 e1
    split at hf
    · rename_i v m2 e2
      cases hf
      refine (ja_cons (X := X) ha (ja_cons hb ja_nil h2) h1).run rp er (ds := [u, v]) (m' := m') (by simp only [aCons, e1, e2, aNil]) _ fun F1 φ1 vs H1 n1 r1 => ?_
      cases r1 with
      | cons ru r2 =>
        obtain ⟨w, rfl, rw'⟩ := r2.one
        exact ⟨_, _, rfl, q _ _ _ _ n1 (((er.mono n1.exF n1.pre).set i ru).set j rw')⟩
    · cases hf
  · cases hf⟩
/-! ### a, b = a tuple or a list -/
def gUnp (n : Nat) (gs : GFs) : GF := fun d ρ m => match d with
  | .tup _ => gTup n gs d ρ m
  | _ => gLst n gs d ρ m
theorem jg_unp {k n : Nat} (hc : X.calm = true) (h : JGs X es gs ws) (hn : (assignEach es X.env).length = n := by rfl) (hst : (assignEach es X.env).findIdx? (·.1) = none := by rfl) : JG X (.Tuple es k pos) (gUnp n gs) ws := ⟨fun {F φ m H ρ σ d v ρ' m'} rp er rv hg Q q => by
  unfold gUnp at hg
  split at hg
  · exact (jg_tup hc h hn hst).run rp er rv hg Q q
  · exact (jg_lst hc h hn hst).run rp er rv hg Q q⟩
/-! ### a walk over a list that may be changed elsewhere -/
def forI (c : Nat) (g : GF) (f1 : BF) : Nat → Nat → Env → Mem → Option (Fl × Mem)
  | 0, _, _, _ => none
  | n + 1, i, ρ, m => match m[c]? with
    | some (.lst ds) => match ds[i]? with
      | none => some (.nx ρ, m)
      | some d => match g d ρ m with
        | some (ρ1, m1) => match f1 ρ1 m1 with
          | some (.nx ρ2, m2) => forI c g f1 n (i + 1) ρ2 m2
          | some (.ct ρ2, m2) => forI c g f1 n (i + 1) ρ2 m2
          | some (.bk ρ2, m2) => some (.nx ρ2, m2)
          | some (.rt v, m2) => some (.rt v, m2)
          | none => none
        | none => none
    | _ => none
def bForI (fi : EF) (g : GF) (f1 : BF) (n : Nat) : BF := fun ρ m => match fi ρ m with
  | some (.cell c, m1) => forI c g f1 n 0 ρ m1
  | _ => none
theorem js_forI (n : Nat) (hp : PassesOwn (model X.prog X.w) X.A X.env X.xe) (hc : X.calm = true) (hi : JE X iter fi) (hg : JG X tg g ws) (hb : JB X sts f1) (hs : ∀ x, foldedSetIterable iter X.env x = pure x := by intro _; rfl) :
    JS X (.For tg iter sts [] pos) (bForI fi g f1 n) := ⟨fun {F φ m H ρ σ r m'} rp er hf D q => by
  refine ws_of (ps_for hp hc (pi_list pe_w) pg_w pss_w hs) ?_
  unfold bForI at hf
  split at hf
  · rename_i c m1 h1
    refine hi.run rp er h1 _ fun F1 φ1 v H1 n1 r1 => ?_
    cases r1 with
    | @cell _ a hpc =>
      have q1 := q.after n1
      have er1 := er.mono n1.exF n1.pre
      cases n with
      | zero => cases hf
      | succ n0 =>
      have seq1 : ∃ xs, SqL X.K H1 a xs := by
        unfold forI at hf
        split at hf
        · rename_i ds hm
          obtain ⟨_, o, ho, vs, rfl, rv⟩ := n1.rep.cell _ _ _ hm (fun e => nomatch e) hpc
          exact ⟨vs, SqL.of ho⟩
        · cases hf
      refine ⟨a, rfl, seq1, ?_⟩
      refine ⟨fun i k σ H => ∃ F φ m ρ, Rep X.K F φ m H ∧ Evl.Ex F1 F ∧ Pre φ1 φ ∧ EnvR X.K F φ ρ σ ∧ forI c g f1 k i ρ m = some (r, m') ∧ FlOk X.K F φ m H m' D r,
        ⟨n0 + 1, F1, φ1, m1, ρ, n1.rep, Evl.Ex.refl _, Pre.refl _, er1, hf, q1⟩, ?_⟩
      rintro i k σ2 H2 ⟨F2, φ2, m2, ρ2, rp2, ex2, pr2, er2, hf2, q2⟩
      cases k with
      | zero => cases hf2
      | succ k =>
      unfold forI at hf2
      split at hf2
      · rename_i ds hm
        have hp2 := pr2 _ _ hpc
        obtain ⟨_, o, ho, vs, rfl, rv⟩ := rp2.cell _ _ _ hm (fun e => nomatch e) hp2
        split at hf2
        · rename_i hd
          cases hf2
          refine .inl ⟨⟨vs, SqL.of ho, ?_⟩, q2 _ _ _ _ (Nxt.refl rp2) er2⟩
          rw [← rv.len]
          exact List.getElem?_eq_none_iff.mp hd
        · rename_i d hd
          obtain ⟨v, hv, rd⟩ := rv.get hd
          refine .inr ⟨⟨vs, v, SqL.of ho, hv⟩, fun σ' H' => ∃ F φ m ρ, Rep X.K F φ m H' ∧ Evl.Ex F1 F ∧ Pre φ1 φ ∧ EnvR X.K F φ ρ σ' ∧ forI c g f1 k (i + 1) ρ m = some (r, m') ∧ FlOk X.K F φ m H' m' D r,
            fun σ' H' h => ⟨k, Nat.lt_succ_self _, h⟩, fun x H3 hy => ?_⟩
          obtain ⟨rfl, hy⟩ := hy
          have ex := hy vs (SqL.of ho)
          rw [hv] at ex
          cases ex
          split at hf2
          · rename_i ρ4 m4 e4
            refine hg.run rp2 er2 rd e4 _ fun F4 φ4 σ4 H4 n4 er4 _ => ?_
            split at hf2
            · rename_i ρ5 m5 e5
              refine hb.run n4.rep er4 e5 _ fun F5 φ5 σ5 H5 n5 er5 => ?_
              have n45 := n4.trans n5
              exact ⟨F5, φ5, m5, ρ5, n5.rep, ex2.trans n45.exF, pr2.trans n45.pre, er5, hf2, q2.after n45⟩
            · rename_i ρ5 m5 e5
              refine hb.run n4.rep er4 e5 _ fun F5 φ5 σ5 H5 n5 er5 => ?_
              have n45 := n4.trans n5
              exact ⟨F5, φ5, m5, ρ5, n5.rep, ex2.trans n45.exF, pr2.trans n45.pre, er5, hf2, q2.after n45⟩
            · rename_i ρ5 m5 e5
              cases hf2
              exact hb.run n4.rep er4 e5 _ fun F5 φ5 σ5 H5 n5 er5 => q2 _ _ _ _ (n4.trans n5) er5
            · rename_i d5 m5 e5
              cases hf2
              exact hb.run n4.rep er4 e5 _ fun F5 φ5 v5 H5 n5 r5 => q2 _ _ _ _ (n4.trans n5) r5
            · cases hf2
          · cases hf2
      · cases hf2
  · cases hf⟩
end
end VI
namespace VI
theorem hu0 {A : PySem.Around} (h : A.units + 64 < PySem.cLine) : A.units < PySem.cLine := by omega
theorem hu1 {A : PySem.Around} (h : A.units + 64 < PySem.cLine) : A.units + 1 < PySem.cLine := by omega
end VI
end
section
namespace VI
open PySem PySem.Spec PyProof.Rows L2
section
variable {X : Cx} {a : Expr} {b1 b2 rest : List Stmt} {pos p cp : Pos} {j : Nat} {fa : EF} {f1 f2 f3 : BF} {op : CmpOp} {r : Mem → D → D → Option D} {c : Str} {cl : List Nat}
/-- a comparison with a written text: behind it a token is out -/
theorem cond_str (ho : OD X (compareOp op) r) (ha : JE X a fa) (ec : c = S cl) (hm : behindInMarks op (.Constant (.str c) j cp) = false) {F φ m H ρ σ bb m1 pins s} (rp : Rep X.K F φ m H) (er : EnvR X.K F φ ρ σ) (hf : tV (eOp r fa (eC (.str cl))) ρ m = some (bb, m1)) (I : Inv X pins σ H s) :
    wpAny (model X.prog X.w) X.A (isTrue (.Compare a [op] [.Constant (.str c) j cp] p) X.env (eval (.Compare a [op] [.Constant (.str c) j cp] p) X.env)) (fun k s' => k = bb ∧ 1 ≤ s'.toks ∧ ∃ F' φ' H', Nxt X.K F φ m H F' φ' m1 H' ∧ Inv X pins σ H' s') X.xe s := by
  unfold tV at hf
  split at hf
  · rename_i b' m2 h1
    cases hf
    unfold eOp at h1
    split at h1
    · rename_i x m3 h3
      split at h1
      · rename_i y m4 h4
        cases h4
        split at h1
        · rename_i d h5
          cases h1
          have w := ha.run rp er h3 (fun v H1 => ∃ F1 φ1, Nxt X.K F φ m H F1 φ1 m1 H1 ∧ VR X.K F1 φ1 x v) (fun F1 φ1 v H1 n r => ⟨F1, φ1, n, r⟩) pins s I
          refine wpAny_isTrue_Compare1 (thn w fun v s1 ⟨vx, H1, I1, rv, F1, φ1, n1, rx⟩ => Calls.Constant_str ?_) hm
          have ry : VR X.K F1 φ1 (.str cl) (.str c) := by rw [ec]; exact .str cl
          obtain ⟨rr, hr, q⟩ := ho n1.rep rx ry h5 (fun v H' => ∃ F' φ', Nxt X.K F φ m H F' φ' m1 H' ∧ VR X.K F' φ' (.bl bb) v) fun F' φ' v H' n r => ⟨F', φ', n1.trans n, r⟩
          refine thnT (hr pins { s1 with toks := s1.toks + 1 } σ H1 vx (.str c) v (.str c s1.toks) _ (I1.tok _) rv ⟨_, rfl⟩ q) fun u s2 ⟨k2, z, H2, I2, rz, F2, φ2, n2, r2⟩ => ?_
          cases r2
          cases rz
          have k3 : s1.toks + 1 ≤ s2.toks := k2
          exact wpAny_truthy_bool ⟨rfl, by omega, F2, φ2, H2, n2, I2⟩
        · cases h1
      · cases h1
    · cases h1
  · cases hf
def behind (f3 : BF) : Fl → Mem → Option (Fl × Mem)
  | .nx ρ, m => f3 ρ m
  | r, m => some (r, m)
theorem jb_ifC (ho : OD X (compareOp op) r) (ha : JE X a fa) (h1 : JBT X b1 f1) (h2 : JBT X b2 f2) (h3 : JBT X rest f3) (ec : c = S cl := by decide +kernel) (hm : behindInMarks op (.Constant (.str c) j cp) = false := by first | rfl | exact nomark _) :
    JB X (.If (.Compare a [op] [.Constant (.str c) j cp] p) b1 b2 pos :: rest) (bSeq (bIf (tV (eOp r fa (eC (.str cl)))) f1 f2) f3) := ⟨fun {F φ m H ρ σ r' m'} rp er hf D q pins s I => by
  have fin : ∀ {fb : BF} {sts : List Stmt} {F1 φ1 m1 H1 s1 r1 m2}, JBT X sts fb → Nxt X.K F φ m H F1 φ1 m1 H1 → Inv X pins σ H1 s1 → 1 ≤ s1.toks → fb ρ m1 = some (r1, m2) → behind f3 r1 m2 = some (r', m') →
      wpAny (model X.prog X.w) X.A (execs sts X.env) (fun f s2 => match f with | .next => wpAny (model X.prog X.w) X.A (execs rest X.env) (SP X pins D) X.xe s2 | f => SP X pins D f s2) X.xe s1 := fun {fb sts F1 φ1 m1 H1 s1 r1 m2} hb n1 I1 k1 e1 e2 => by
    refine thnT (hb.run n1.rep (er.mono n1.exF n1.pre) e1 { D with nx := WBT X rest D } ?_ pins s1 k1 I1) fun f s2 ⟨k2, w⟩ => ?_
    · have q1 := q.after n1
      cases r1 with
      | nx ρ2 => exact fun F2 φ2 σ2 H2 n2 er2 => h3.run n2.rep er2 e2 D (q1.after n2)
      | bk ρ2 => cases e2; exact q1
      | ct ρ2 => cases e2; exact q1
      | rt d => cases e2; exact q1
    · cases f with
      | next => obtain ⟨σ2, H2, I2, z⟩ := w; exact z pins s2 (by omega) I2
      | cont => exact w
      | brk => exact w
      | ret v => exact w
  unfold bSeq bIf at hf
  refine wpAny_execs_cons (wpAny_If ?_)
  split at hf
  · rename_i ρ2 m2 e2
    split at e2
    · rename_i m1 e1
      exact thn (cond_str ho ha ec hm rp er e1 I) fun k s1 ⟨hk, k1, F1, φ1, H1, n1, I1⟩ => by subst hk; exact fin h1 n1 I1 k1 e2 hf
    · rename_i m1 e1
      exact thn (cond_str ho ha ec hm rp er e1 I) fun k s1 ⟨hk, k1, F1, φ1, H1, n1, I1⟩ => by subst hk; exact fin h2 n1 I1 k1 e2 hf
    · cases e2
  · rename_i r1 m2 hne e2
    cases hf
    have e3 : behind f3 r' m' = some (r', m') := by
      cases r' with
      | nx ρ2 => exact (hne _ rfl).elim
      | bk ρ2 => rfl
      | ct ρ2 => rfl
      | rt d => rfl
    split at e2
    · rename_i m1 e1
      exact thn (cond_str ho ha ec hm rp er e1 I) fun k s1 ⟨hk, k1, F1, φ1, H1, n1, I1⟩ => by subst hk; exact fin h1 n1 I1 k1 e2 e3
    · rename_i m1 e1
      exact thn (cond_str ho ha ec hm rp er e1 I) fun k s1 ⟨hk, k1, F1, φ1, H1, n1, I1⟩ => by subst hk; exact fin h2 n1 I1 k1 e2 e3
    · cases e2
  · cases hf⟩
end
end VI
end
section
namespace VI
open PySem PySem.Spec PyProof.Rows L2
section
variable {X : Cx} {a b c e elt tg iter : Expr} {es ifs : List Expr} {pos : Pos} {fa fb fc fe fi : EF} {g : GF} {ws : List Nat} {tc : TF} {fr : AF}
/-! ### [.. for .. in a list that may be changed elsewhere] -/
def compI (own : List Nat) (c : Nat) (g : GF) (t : TF) (e : EF) (ρ : Env) : Nat → Nat → List D → Mem → Option (List D × Mem)
  | 0, _, _, _ => none
  | n + 1, i, acc, m => match m[c]? with
    | some (.lst ds) => match ds[i]? with
      | none => some (acc, m)
      | some d => match g d (wipeD ρ own) m with
        | some (ρ1, m1) => match t ρ1 m1 with
          | some (true, m2) => match e ρ1 m2 with
            | some (y, m3) => if acc.length < 16777216 then compI own c g t e ρ n (i + 1) (acc ++ [y]) m3 else none
            | none => none
          | some (false, m2) => compI own c g t e ρ n (i + 1) acc m2
          | none => none
        | none => none
    | _ => none
def eCompI (own : List Nat) (fi : EF) (g : GF) (t : TF) (e : EF) (n : Nat) : EF := fun ρ m => match fi ρ m with
  | some (.cell c, m1) => match compI own c g t e ρ n 0 [] m1 with
    | some (ds, m2) => some (.lst ds, m2)
    | none => none
  | _ => none
theorem comp_readI (own : List (Str × Nat)) (n : Nat) {scope : Scope} (hc : X.calm = true) (hN : X.N.Nodup) (hi : JE X iter fi) (hok : BlkOk X.N X.env.scope scope own)
    (hg : ∀ (s : Shared) (H : Hp) (C : Addr) (cl : List (Str × Addr)) (fp : List Addr), JG (X.blk s H scope (compEnvC scope cl C X.env) fp) tg g ws)
    (ht : ∀ (s : Shared) (H : Hp) (C : Addr) (cl : List (Str × Addr)) (fp : List Addr), JC (X.blk s H scope (compEnvC scope cl C X.env) fp) ifs tc)
    (he : ∀ (s : Shared) (H : Hp) (C : Addr) (cl : List (Str × Addr)) (fp : List Addr), JE (X.blk s H scope (compEnvC scope cl C X.env) fp) elt fe)
    (hws : ∀ i ∈ ws, i ∈ own.map (·.2))
    {F φ m H ρ σ d m'} (rp : Rep X.K F φ m H) (er : EnvR X.K F φ ρ σ) (hf : eCompI (own.map (·.2)) fi g tc fe n ρ m = some (d, m')) (Q : VK) (q : ∀ F' φ' v H', Nxt X.K F φ m H F' φ' m' H' → VR X.K F' φ' d v → Q v H') :
    tLc (iList X.K (WE X iter)) (gB X scope tg) (tB2 X scope ifs) (eB X scope elt) (own.map (·.2)) σ H Q := by
  unfold eCompI at hf
  split at hf
  · rename_i c m1 h1
    split at hf
    · rename_i res m2 h2
      cases hf
      refine hi.run rp er h1 _ fun F1 φ1 v H1 n1 r1 => ?_
      cases r1 with
      | @cell _ a hpc =>
      cases n with
      | zero => cases h2
      | succ n0 =>
      have seq1 : ∃ xs, SqL X.K H1 a xs := by
        unfold compI at h2
        split at h2
        · rename_i ds hm
          obtain ⟨_, o, ho, vs, rfl, rv⟩ := n1.rep.cell _ _ _ hm (fun e => nomatch e) hpc
          exact ⟨vs, SqL.of ho⟩
        · cases h2
      refine ⟨a, rfl, seq1, fun D hD => ?_⟩
      have er1 := er.mono n1.exF n1.pre
      have hFD := n1.rep.fresh_F hD
      have hLD := n1.rep.fresh_L hD
      refine ⟨fun i k H => ∃ F φ m acc vs, Nxt X.K F1 φ1 m1 H1 F φ m H ∧ H D = some (.lst vs) ∧ VRs X.K F φ acc vs ∧ ¬ Live φ m D ∧ F D = none ∧ compI (own.map (·.2)) c g tc fe ρ k i acc m = some (res, m'),
        ⟨n0 + 1, F1, φ1, m1, [], [], (Nxt.refl n1.rep).mut hD hLD hFD, upd_same, .nil, hLD, hFD, h2⟩, ?_⟩
      rintro i k H2 ⟨F2, φ2, m3, acc, vs, n2, hD2, rv2, hL2, hF2, hf2⟩
      cases k with
      | zero => cases hf2
      | succ k =>
      unfold compI at hf2
      split at hf2
      · rename_i ds hm
        have hp2 := n2.pre _ _ hpc
        obtain ⟨_, o, ho, us, rfl, ru⟩ := n2.rep.cell _ _ _ hm (fun e => nomatch e) hp2
        split at hf2
        · rename_i hd
          cases hf2
          have n3 := n2.settle hD hD2 hL2 hF2
          refine .inl ⟨⟨us, SqL.of ho, ?_⟩, q _ _ _ _ (n1.trans n3) (.lst upd_same (rv2.mono (Evl.Ex.new hF2) (Pre.refl _)))⟩
          rw [← ru.len]
          exact List.getElem?_eq_none_iff.mp hd
        · rename_i d hd
          obtain ⟨v, hv, rd⟩ := ru.get hd
          refine .inr ⟨⟨us, v, SqL.of ho, hv⟩, fun H' => ∃ F φ m acc vs, Nxt X.K F1 φ1 m1 H1 F φ m H' ∧ H' D = some (.lst vs) ∧ VRs X.K F φ acc vs ∧ ¬ Live φ m D ∧ F D = none ∧ compI (own.map (·.2)) c g tc fe ρ k (i + 1) acc m = some (res, m'),
            fun H' h => ⟨k, Nat.lt_succ_self _, h⟩, fun x H3 hy s0 H0 C cl fp => ?_⟩
          obtain ⟨rfl, hy⟩ := hy
          have ex := hy us (SqL.of ho)
          rw [hv] at ex
          cases ex
          split at hf2
          · rename_i ρ4 m4 e4
            have er3 := (er1.mono n2.exF n2.pre).wipe (own.map (·.2))
            refine (hg s0 H0 C cl fp).run n2.rep er3 rd e4 _ fun F4 φ4 σ4 H4 n4 er4 bt => ⟨wipe_but hws bt, fun s0 H0 C cl fp => ?_⟩
            obtain ⟨hD4, hL4, hF4⟩ := n4.keep D _ hD2 hL2
            have n14 := n2.trans n4
            split at hf2
            · rename_i m5 e5
              refine (ht s0 H0 C cl fp).run n4.rep er4 e5 _ fun F5 φ5 H5 n5 => ?_
              obtain ⟨hD5, hL5, hF5⟩ := n5.keep D _ hD4 hL4
              have n15 := n14.trans n5
              rw [if_pos rfl]
              intro s0 H0 C cl fp
              split at hf2
              · rename_i y m6 e6
                split at hf2
                · rename_i hsz
                  refine (he s0 H0 C cl fp).run n5.rep (er4.mono n5.exF n5.pre) e6 _ fun F6 φ6 vy H6 n6 r6 => ?_
                  obtain ⟨hD6, hL6, hF6⟩ := n6.keep D _ hD5 hL5
                  have n16 := n15.trans n6
                  have n26 := (n4.trans n5).trans n6
                  have rv6 := rv2.mono n26.exF n26.pre
                  have hF6' : F6 D = none := by rw [hF6, hF5, hF4, hF2]
                  refine ⟨vs, hD6, ?_, F6, φ6, m6, acc ++ [y], vs ++ [vy], n16.mut hD hL6 hF6', upd_same, rv6.app (.cons r6 .nil), hL6, hF6', hf2⟩
                  rw [← rv2.len]
                  exact hsz
                · cases hf2
              · cases hf2
            · rename_i m5 e5
              refine (ht s0 H0 C cl fp).run n4.rep er4 e5 _ fun F5 φ5 H5 n5 => ?_
              obtain ⟨hD5, hL5, hF5⟩ := n5.keep D _ hD4 hL4
              have n15 := n14.trans n5
              have n25 := n4.trans n5
              rw [if_neg Bool.false_ne_true]
              exact ⟨F5, φ5, m5, acc, vs, n15, hD5, rv2.mono n25.exF n25.pre, hL5, by rw [hF5, hF4, hF2], hf2⟩
            · cases hf2
          · cases hf2
      · cases hf2
    · cases hf
  · cases hf
theorem j_compI (own : List (Str × Nat)) (n : Nat) {scope : Scope} (hc : X.calm = true) (hN : X.N.Nodup) (hi : JE X iter fi) (hok : BlkOk X.N X.env.scope scope own)
    (hg : ∀ (s : Shared) (H : Hp) (C : Addr) (cl : List (Str × Addr)) (fp : List Addr), JG (X.blk s H scope (compEnvC scope cl C X.env) fp) tg g ws)
    (ht : ∀ (s : Shared) (H : Hp) (C : Addr) (cl : List (Str × Addr)) (fp : List Addr), JC (X.blk s H scope (compEnvC scope cl C X.env) fp) ifs tc)
    (he : ∀ (s : Shared) (H : Hp) (C : Addr) (cl : List (Str × Addr)) (fp : List Addr), JE (X.blk s H scope (compEnvC scope cl C X.env) fp) elt fe)
    (hws : ∀ i ∈ ws, i ∈ own.map (·.2)) (hs : ∀ x, foldedSetIterable iter X.env x = pure x := by intro _; rfl) :
    JE X (.ListComp elt [⟨tg, iter, ifs, 0⟩] scope pos) (eCompI (own.map (·.2)) fi g tc fe n) := ⟨fun {F φ m H ρ σ d m'} rp er hf Q q =>
  we_of (pe_lc (g := gB X scope tg) (tt := tB2 X scope ifs) (te := eB X scope elt) hc hN (pi_list pe_w) hok
    (fun s0 H0 C cl fp => ⟨fun pins s σ H v u Q I r h => h s0 H0 C cl fp pins s u I r⟩) (fun s0 H0 C cl fp => ⟨fun pins s σ H Q I h => h s0 H0 C cl fp pins s I⟩)
    (fun s0 H0 C cl fp => ⟨fun pins s σ H Q I h => h s0 H0 C cl fp pins s I⟩) hs) (comp_readI own n hc hN hi hok hg ht he hws rp er hf Q q)⟩
end
end VI
end
section
namespace VI
open PySem PySem.Spec PyProof.Rows L2
/-! ### xs.extend(a tuple) -/
set_option maxHeartbeats 2000000 in
theorem meets_extT {a c : Addr} {xs ys : Array Value} {k j : Nat} {dd : Option Addr} {sl : Array (Option Value)}
    (fits : ¬ (!xs.isEmpty && Builtin.List.listTooLong (xs.size + ys.size)) = true)
    (fx : xs.size ≤ sizeLine) (fy : xs.size + ys.size ≤ sizeLine + 1) :
    Meets (Builtin.«list.extend» ⟨[.ref a, .ref c], []⟩) (fun _ R s =>
      s.heap.get? a = some ⟨.type "list", none, .seq xs k, #[]⟩ ∧
      s.heap.get? c = some ⟨.type "tuple", dd, .seq ys j, sl⟩ ∧
      R (.ok (.ret Value.none)) { s with heap := s.heap.update a (Obj.mapSeq fun zs => zs ++ ys), toks := s.toks }) := by
  refine .of_wp fun prog w A R s h => ?_
  obtain ⟨hp, g, d, tk, os⟩ := s
  obtain ⟨ha, hc, q⟩ := h
  have e1 := AutoSeq1.sub_tuple_tuple
  have e2 := AutoSeq1.sub_list_list
  have e3 := AutoSeq1.sub_tuple_list
  have e4 := AutoSeq1.sub_list_tuple
  have hz : (xs ++ ys).size ≤ sizeLine + 1 := (Array.size_append (xs := xs) (ys := ys)).symm ▸ fy
  wp_walk using (wpAny_updateSeq ha rfl (hz := fx) (_hz' := hz)), AutoSeq1.wpAny_loadPart' ha, AutoSeq1.wpAny_loadPart' hc
  exact ⟨_, rfl, q⟩
section
variable {X : Cx} {a b c e f o tg : Expr} {es : List Expr} {pos p apos cpos : Pos} {fa fb fe ff fo fi : EF} {fr : AF} {x name : Str}
def rExtT (K : PySem.W.Frag) : V → List V → Hp → VK → Prop := fun x vs H Q => ∃ l b xs zs, x = .ref l ∧ vs = [.ref b] ∧ H l = some (.lst xs) ∧ SqT K H b zs ∧ xs.length + zs.length ≤ sizeLine ∧ Q .non (upd H l (.lst (xs ++ zs)))
theorem mt_extT : MtM X "list.extend" (rExtT X.K) := by
  intro pins s σ H x vs v us Q I rx rv h
  obtain ⟨l, b, xs, zs, rfl, rfl, hH, hB, hz, q⟩ := h
  cases rx
  obtain ⟨u, rfl, ru⟩ := rv.one
  cases ru
  obtain ⟨z, its, n, r, hl, e⟩ := I.lstM hH
  obtain ⟨its2, r2, ⟨⟨oc, od, dt, sl⟩, g1, g2, n2, g3⟩, z2⟩ := I.tuple hB
  simp only at g2 g3
  subst g2 g3
  have hl2 := r2.length
  have hsz : its.toArray.size + its2.toArray.size ≤ sizeLine := by simp only [List.size_toArray]; omega
  refine call_meets F.slot_list_extend ⟨_, e, rfl⟩ F.entry_list_extend (F.args_list_extend_2 _ _)
    (meets_extT (k := n) (j := n2) (fun h => by rw [notLongL hsz, Bool.and_false] at h; cases h) (by simp only [List.size_toArray]; omega) (by omega)) ⟨e, g1, ?_⟩
  refine ⟨.non, _, I.lset (its' := its ++ its2) hH e (by simp) (r.append r2) ?_, rfl, q⟩
  rw [List.length_append]
  omega
def tupD : D → Option (List D)
  | .tup ds => some ds
  | _ => none
def eExtT (fo fe : EF) : EF := fun ρ m => match fo ρ m with
  | some (.cell c, m1) => match m1[c]? with
    | some (.lst _) => match fe ρ m1 with
      | some (.tup es, m2) => match m2[c]? with
        | some (.lst ds) => if ds.length + es.length ≤ 16777216 then some (.non, m2.set c (.lst (ds ++ es))) else none
        | _ => none
      | _ => none
    | _ => none
  | _ => none
theorem j_extT (ho : JE X o fo) (he : JE X e fe) (hbase : attributeBase o "extend" X.env (eval o X.env) = eval o X.env := by rfl)
    (hfew : ((backTo cpos (starEach [e] X.env)).all (fun x => !x.1) && (backToKw cpos (keywordEach [] X.env)).all (fun x => x.1.isSome)
      && decide ([e].length + ([] : List Keyword).length + (if ([] : List Keyword).isEmpty then 0 else 1) < 30)) = true := by rfl)
    (hline : (apos.endLine == cpos.line) = true := by rfl) (hs : starEach [e] X.env = (false, eval e X.env) :: starEach [] X.env := by rfl) (hplain : (backTo cpos (starEach [] X.env)).any (·.1) = false := by rfl) :
    JE X (.Call (.Attribute o "extend" apos) [e] [] cpos) (eExtT fo fe) := ⟨fun {F φ m H ρ σ d m'} rp er hf Q q => by
  refine we_of (pe_bm PySem.F.plainAttrs_list PySem.F.slot_list_extend PySem.F.type_list_extend mt_extT pe_w pa_w hbase hfew hline hs hplain) ?_
  unfold eExtT at hf
  split at hf
  · rename_i c m1 h1
    split at hf
    · rename_i ds0 hm0
      split at hf
      · rename_i es m2 h2
        split at hf
        · rename_i ds hm
          split at hf
          · rename_i hl
            cases hf
            refine ho.run rp er h1 _ fun F1 φ1 v H1 n1 r1 => ?_
            cases r1 with
            | @cell _ a hp =>
              obtain ⟨_, o1, ho1, vs1, rfl, rv1⟩ := n1.rep.cell _ _ _ hm0 (fun e => nomatch e) hp
              refine ⟨.inl ⟨rfl, _, SqL.of ho1⟩, ?_⟩
              refine (ja_cons (X := X) he ja_nil hs).run n1.rep (er.mono n1.exF n1.pre) (ds := [.tup es]) (m' := m2) (by simp only [aCons, h2, aNil]) _ fun F2 φ2 vs H2 n2 r2 => ?_
              obtain ⟨vy, rfl, ry⟩ := r2.one
              have hp2 := n2.pre _ _ hp
              obtain ⟨_, o2, ho2, vs2, rfl, rv2⟩ := n2.rep.cell _ _ _ hm (fun e => nomatch e) hp2
              cases ry with
              | @tup g _ ws hg rw' =>
                refine ⟨a, g, vs2, ws, rfl, rfl, ho2, Evl.ex_t n2.rep.ex hg, by rw [← rv2.len, ← rw'.len]; exact hl, ?_⟩
                have n3 := n2.rep.write (y := O.lst (ds ++ es)) (o := .lst (vs2 ++ ws)) hm (fun e => nomatch e) hp2 (fun e => nomatch e) ⟨_, rfl, rv2.app rw'⟩
                exact q _ _ _ _ ((n1.trans n2).trans n3) .non
          · cases hf
        · cases hf
      · cases hf
    · cases hf
  · cases hf⟩
/-! ### xs.reverse() -/
def eRevIn (fo : EF) : EF := fun ρ m => match fo ρ m with
  | some (.cell c, m1) => match m1[c]? with
    | some (.lst ds) => some (.non, m1.set c (.lst ds.reverse))
    | _ => none
  | _ => none
theorem j_revIn (ho : JE X o fo) (hbase : attributeBase o "reverse" X.env (eval o X.env) = eval o X.env := by rfl) (hline : (apos.endLine == cpos.line) = true := by rfl) : JE X (.Call (.Attribute o "reverse" apos) [] [] cpos) (eRevIn fo) := ⟨fun {F φ m H ρ σ d m'} rp er hf Q q => by
  refine we_of (pe_bm0 PySem.F.plainAttrs_list PySem.F.slot_list_reverse PySem.F.type_list_reverse mt_reverse pe_w hbase hline) ?_
  unfold eRevIn at hf
  split at hf
  · rename_i c m1 h1
    split at hf
    · rename_i ds hm
      cases hf
      refine ho.run rp er h1 _ fun F1 φ1 v H1 n1 r1 => ?_
      cases r1 with
      | @cell _ a hp =>
        obtain ⟨_, o1, ho1, vs, rfl, rv⟩ := n1.rep.cell _ _ _ hm (fun e => nomatch e) hp
        refine ⟨.inl ⟨rfl, _, SqL.of ho1⟩, _, vs, rfl, rfl, ho1, ?_⟩
        have n := n1.rep.write (y := O.lst ds.reverse) (o := .lst vs.reverse) hm (fun e => nomatch e) hp (fun e => nomatch e) ⟨_, rfl, rv.rev⟩
        exact q _ _ _ _ (n1.trans n) .non
    · cases hf
  · cases hf⟩
/-! ### all([..]) of truths -/
def toBls : List D → Option (List Bool)
  | [] => some []
  | .bl i :: r => match toBls r with
    | some is => some (i :: is)
    | none => none
  | _ => none
theorem toBls_eq : ∀ {ds : List D} {is : List Bool}, toBls ds = some is → ds = is.map D.bl
  | [], _, h => by cases h; rfl
  | .bl i :: r, _, h => by
    unfold toBls at h
    split at h
    · rename_i js e
      cases h
      rw [toBls_eq e]
      rfl
    · cases h
  | .non :: _, _, h => by cases h
  | .int _ :: _, _, h => by cases h
  | .str _ :: _, _, h => by cases h
  | .tup _ :: _, _, h => by cases h
  | .lst _ :: _, _, h => by cases h
  | .lsk _ :: _, _, h => by cases h
  | .cell _ :: _, _, h => by cases h
  | .ty _ :: _, _, h => by cases h
theorem toBls_map : ∀ is : List Bool, toBls (is.map D.bl) = some is
  | [] => rfl
  | i :: r => by show (match toBls (r.map D.bl) with | some is => some (i :: is) | none => none) = _; rw [toBls_map r]
theorem VRs.bls_inv {K : PySem.W.Frag} {F : Hp} {φ : List Addr} : ∀ {ns : List Bool} {vs : List V}, VRs K F φ (ns.map D.bl) vs → vs = ns.map V.bl
  | [], _, .nil => rfl
  | n :: r, _, .cons (.bl _) t => by rw [VRs.bls_inv t]; rfl
def bAll : Mem → List D → Option D
  | _, [.lst ds] => match toBls ds with
    | some is => some (.bl (is.all id))
    | none => none
  | _, _ => none
theorem cb_all (hc : X.calm = true) : CB X (.builtin "all") bAll := by
  intro F φ m H ds d vs rp rv h Q q
  unfold bAll at h
  split at h
  · split at h
    · rename_i is e
      cases h
      obtain ⟨v, rfl, r⟩ := rv.one
      cases r with
      | lst hq rvs =>
        have e2 := toBls_eq e
        subst e2
        have e3 := rvs.bls_inv
        subst e3
        exact ⟨_, cr_all hc, _, is, rfl, SqL.of (rp.ex _ _ hq), q _ _ _ _ (Nxt.refl rp) (.bl _)⟩
    · cases h
  · cases h
/-! ### isinstance(x, (A, B)) -/
def eIsi2 (fe : EF) (A B : String) : EF := fun ρ m => match fe ρ m with
  | some (d, m1) => match tyN m1 d with
    | some t => if (["bool", "int", "str", "tuple", "list", "dict"].contains A && ["bool", "int", "str", "tuple", "list", "dict"].contains B) = true then some (.bl (subT t A || subT t B), m1) else none
    | none => none
  | none => none
theorem j_isi2 {A B : String} {x1 x2 : Str} {p1 p2 tp : Pos} {k : Nat} (hmi : X.mg "isinstance" = none) (he : JE X e fe) (h1 : JE X (.Name x1 p1) (eC (.ty A))) (h2 : JE X (.Name x2 p2) (eC (.ty B)))
    (hg : Gl X "isinstance" := by rfl) (hs : starEach [e, .Tuple [.Name x1 p1, .Name x2 p2] k tp] X.env = (false, eval e X.env) :: starEach [.Tuple [.Name x1 p1, .Name x2 p2] k tp] X.env := by rfl)
    (hs1 : starEach [.Tuple [.Name x1 p1, .Name x2 p2] k tp] X.env = (false, eval (.Tuple [.Name x1 p1, .Name x2 p2] k tp) X.env) :: starEach [] X.env := by rfl)
    (hs2 : starEach [.Name x1 p1, .Name x2 p2] X.env = (false, eval (.Name x1 p1) X.env) :: starEach [.Name x2 p2] X.env := by rfl) (hs3 : starEach [.Name x2 p2] X.env = (false, eval (.Name x2 p2) X.env) :: starEach [] X.env := by rfl)
    (hpl : (backTo pos (starEach [.Tuple [.Name x1 p1, .Name x2 p2] k tp] X.env)).any (·.1) = false := by rfl) :
    JE X (.Call (.Name "isinstance" p) [e, .Tuple [.Name x1 p1, .Name x2 p2] k tp] [] pos) (eIsi2 fe A B) := ⟨fun {F φ m H ρ σ d m'} rp er hf Q q => by
  unfold eIsi2 at hf
  split at hf
  · rename_i d1 m1 e1
    split at hf
    · rename_i t ht
      split at hf
      · rename_i hAB
        cases hf
        rw [Bool.and_eq_true] at hAB
        refine we_of (pe_callB call_isiT hg hmi (by decide +kernel) (pa_cons pe_w (pa_cons (pe_tup (pa_cons pe_w (pa_cons pe_w pa_nil hs3) hs2)) pa_nil hs1) hs) (by decide) (by decide) hs hpl) ?_
        refine he.run rp er e1 _ fun F1 φ1 v H1 n1 r1 => ?_
        refine h1.run n1.rep (er.mono n1.exF n1.pre) (d := .ty A) (m' := m') rfl _ fun F2 φ2 v2 H2 n2 r2 => ?_
        refine h2.run n2.rep ((er.mono n1.exF n1.pre).mono n2.exF n2.pre) (d := .ty B) (m' := m') rfl _ fun F3 φ3 v3 H3 n3 r3 => ?_
        cases r2; cases r3
        refine ⟨(show 2 ≤ sizeLine by decide), fun l hl => ?_⟩
        have n4 := n3.rep.frozen (o := .tup [.ty A, .ty B]) hl
        have n24 := (n2.trans n3).trans n4
        obtain ⟨ty, hmem⟩ := tyN_ok n4.rep (r1.mono n24.exF n24.pre) ht
        have k1 := kit_all t hmem A (by simpa using hAB.1)
        have k2 := kit_all t hmem B (by simpa using hAB.2)
        refine ⟨_, l, _, _, [.type A, .type B], subT t A || subT t B, rfl, upd_same, .cons (.ty A) (.cons (.ty B) .nil), ty, ?_, q _ _ _ _ (n1.trans n24) (.bl _)⟩
        refine kitAny_cons (kit_ty k1) (fun hb => ?_) (fun hb => by rw [hb]; rfl)
        refine kitAny_cons (kit_ty k2) (fun hb2 => ?_) (fun hb2 => by rw [hb2, Bool.or_true])
        rw [hb, hb2]; exact kitAny_nil
      · cases hf
    · cases hf
  · cases hf⟩
end
/-! ### y = [.. for .. in a list in the memory] -/
section
variable {X : Cx} {elt tg iter : Expr} {ifs : List Expr} {pos : Pos} {fe fi : EF} {g : GF} {ws : List Nat} {tc : TF}
theorem js_setLcI (i : Nat) (own : List (Str × Nat)) (n : Nat) {scope : Scope} {y : Str} {py spos : Pos} (hc : X.calm = true) (hN : X.N.Nodup) (hi : JE X iter fi) (hok : BlkOk X.N X.env.scope scope own)
    (hg : ∀ (s : Shared) (H : Hp) (C : Addr) (cl : List (Str × Addr)) (fp : List Addr), JG (X.blk s H scope (compEnvC scope cl C X.env) fp) tg g ws)
    (ht : ∀ (s : Shared) (H : Hp) (C : Addr) (cl : List (Str × Addr)) (fp : List Addr), JC (X.blk s H scope (compEnvC scope cl C X.env) fp) ifs tc)
    (he : ∀ (s : Shared) (H : Hp) (C : Addr) (cl : List (Str × Addr)) (fp : List Addr), JE (X.blk s H scope (compEnvC scope cl C X.env) fp) elt fe)
    (hws : ∀ i ∈ ws, i ∈ own.map (·.2)) (hy : X.N[i]? = some y := by rfl) (hyl : X.env.scope.names.lookup y = some .local := by rfl) (hln : (py.line == pos.line) = true := by rfl) (hkf : X.env.scope.kind = .function := by rfl)
    (han : (scope.names.any fun (n, k) => n == y && (k == .local || k == .cell)) = false := by decide +kernel) (hs : ∀ x, foldedSetIterable iter X.env x = pure x := by intro _; rfl) :
    JS X (.Assign [.Name y py] (.ListComp elt [⟨tg, iter, ifs, 0⟩] scope pos) spos) (bSet (gName i) (eCompI (own.map (·.2)) fi g tc fe n)) := ⟨fun {F φ m H ρ σ r m'} rp er hf D q => by
  refine ws_of (ps_setLc (g := gB X scope tg) (tt := tB2 X scope ifs) (te := eB X scope elt) hc hN hy hyl (sw_true hkf hyl hln han) (pi_list pe_w) hok
    (fun s0 H0 C cl fp => ⟨fun pins s σ H v u Q I r h => h s0 H0 C cl fp pins s u I r⟩) (fun s0 H0 C cl fp => ⟨fun pins s σ H Q I h => h s0 H0 C cl fp pins s I⟩)
    (fun s0 H0 C cl fp => ⟨fun pins s σ H Q I h => h s0 H0 C cl fp pins s I⟩) hs) ?_
  unfold bSet at hf
  split at hf
  · rename_i d m1 h1
    cases hf
    exact comp_readI own n hc hN hi hok hg ht he hws rp er h1 _ fun F' φ' v H' n r => q _ _ _ _ n ((er.mono n.exF n.pre).set i r)
  · cases hf⟩
end
end VI
end
section
namespace VI
open PySem PySem.Spec PyProof.Rows L2
section
variable {X : Cx} {a b c e o tg : Expr} {es : List Expr} {sts : List Stmt} {pos p apos cpos : Pos} {fa fb fe ff fo fi : EF} {fr : AF} {x name : Str} {ps : List Str} {g : FD} {k : Nat}
/-! ### raise: no meaning -/
def bFail : BF := fun _ _ => none
theorem js_fail {st : Stmt} : JS X st bFail := ⟨fun _ _ hf => nomatch hf⟩
theorem js_raise {st : Stmt} : JS X st bFail := js_fail
/-! ### xs.count(y), data -/
def countD (x : D) (ds : List D) : Option Nat := match D.pds ds, x.pd with
  | some ps, some p => if (okPD (.list ps) && okPD p) = true then some (ps.countP fun y => PyData.eqv y p) else none
  | _, _ => none
def eCnt (fo fe : EF) : EF := fun ρ m => match fo ρ m with
  | some (d, m1) => match lstD m1 d with
    | some _ => match fe ρ m1 with
      | some (x, m2) => match lstD m2 d with
        | some ds => match countD x ds with
          | some n => some (.int n, m2)
          | none => none
        | none => none
      | none => none
    | none => none
  | none => none
def rCntD (K : PySem.W.Frag) : V → List V → Hp → VK → Prop := fun x vs H Q => ∃ q zs y ps pd, x = .ref q ∧ vs = [y] ∧ SqL K H q zs ∧ DpAll K H zs ps ∧ Dp K H y pd ∧ okPD (.list ps) = true ∧ okPD pd = true ∧ Q (.int ((ps.countP fun z => PyData.eqv z pd : Nat) : Int)) H
theorem mt_cntD (hu : X.A.units + 64 < cLine) : MtR X "list.count" (rCntD X.K) := by
  intro pins s σ H x vs v us Q I rx rv h
  obtain ⟨q0, zs, y, ps, pd, rfl, rfl, hs, hp, hy, o1, o2, q⟩ := h
  cases rx
  obtain ⟨u, rfl, ru⟩ := rv.one
  obtain ⟨its, r, hl, _⟩ := I.list hs
  obtain ⟨as, ra⟩ := Dp.readsAll I ps zs its hp r
  obtain ⟨bs, rb⟩ := Dp.reads I pd y u hy ru
  have p1 : PyData.plainAll ps = true := okPD.p o1
  have hd : (PyData.list ps).depth ≤ 64 := of_decide_eq_true (Bool.and_eq_true_iff.mp o1).2
  have hd' : PyData.depthAll ps + 1 ≤ 64 := hd
  have hm : min (PyData.depthAll ps) pd.depth ≤ PyData.depthAll ps := Nat.min_le_left _ _
  refine SeqAt.count_list_data hl.isList (vs := its.toArray) (by simpa using ra) rb p1 (okPD.p o2) (by omega) ?_
  exact ⟨.int _, H, I.tok _, ⟨_, rfl⟩, q⟩
theorem VRs.dpAll {K : PySem.W.Frag} {F H : Hp} {φ : List Addr} (ex : Evl.Ex F H) : ∀ {ds : List D} {vs : List V} {ps : List PyData}, VRs K F φ ds vs → D.pds ds = some ps → DpAll K H vs ps := fun r h => VRs.dps ex r h
theorem j_cnt (hu : X.A.units + 64 < cLine) (ho : JE X o fo) (he : JE X e fe) (hbase : attributeBase o "count" X.env (eval o X.env) = eval o X.env := by rfl)
    (hfew : ((backTo cpos (starEach [e] X.env)).all (fun x => !x.1) && (backToKw cpos (keywordEach [] X.env)).all (fun x => x.1.isSome)
      && decide ([e].length + ([] : List Keyword).length + (if ([] : List Keyword).isEmpty then 0 else 1) < 30)) = true := by rfl)
    (hline : (apos.endLine == cpos.line) = true := by rfl) (hs : starEach [e] X.env = (false, eval e X.env) :: starEach [] X.env := by rfl) (hplain : (backTo cpos (starEach [] X.env)).any (·.1) = false := by rfl) :
    JE X (.Call (.Attribute o "count" apos) [e] [] cpos) (eCnt fo fe) := ⟨fun {F φ m H ρ σ d m'} rp er hf Q q => by
  refine we_of (pe_bm PySem.F.plainAttrs_list PySem.F.slot_list_count PySem.F.type_list_count (mt_cntD hu) pe_w pa_w hbase hfew hline hs hplain) ?_
  unfold eCnt at hf
  split at hf
  · rename_i d1 m1 h1
    split at hf
    · rename_i ds0 hd0
      split at hf
      · rename_i y m2 h2
        split at hf
        · rename_i ds hds
          split at hf
          · rename_i n hn
            cases hf
            refine ho.run rp er h1 _ fun F1 φ1 v H1 n1 r1 => ?_
            obtain ⟨q0, vs0, rfl, hq0, _⟩ := lstD_ok n1.rep r1 hd0
            refine ⟨.inl ⟨rfl, _, SqL.of hq0⟩, ?_⟩
            refine (ja_cons (X := X) he ja_nil hs).run n1.rep (er.mono n1.exF n1.pre) (ds := [y]) (m' := m') (by simp only [aCons, h2, aNil]) _ fun F2 φ2 vs H2 n2 r2 => ?_
            obtain ⟨vy, rfl, ry⟩ := r2.one
            obtain ⟨q1, vs1, e1, hq1, rv1⟩ := lstD_ok n2.rep (r1.mono n2.exF n2.pre) hds
            cases e1
            unfold countD at hn
            split at hn
            · rename_i ps pd e1 e2
              split at hn
              · rename_i hok
                cases hn
                rw [Bool.and_eq_true] at hok
                exact ⟨_, vs1, vy, ps, pd, rfl, rfl, SqL.of hq1, rv1.dpAll n2.rep.ex e1, ry.dp n2.rep.ex e2, hok.1, hok.2, q _ _ _ _ (n1.trans n2) (.int _)⟩
              · cases hn
            · cases hn
          · cases hf
        · cases hf
      · cases hf
    · cases hf
  · cases hf⟩
/-! ### max(a list of ints) -/
def maxI : List Int → Int
  | [] => 0
  | i :: r => r.foldl max i
theorem foldl_max : ∀ (r : List Int) (i : Int), (r.foldl max i ∈ i :: r) ∧ ∀ y ∈ i :: r, y ≤ r.foldl max i
  | [], i => ⟨List.mem_cons_self, fun y hy => by rw [List.mem_singleton.mp hy]; exact Int.le_refl _⟩
  | j :: r, i => by
    obtain ⟨h1, h2⟩ := foldl_max r (max i j)
    have hm : max i j ≤ r.foldl max (max i j) := h2 _ List.mem_cons_self
    refine ⟨?_, fun y hy => ?_⟩
    · show r.foldl max (max i j) ∈ _
      rcases List.mem_cons.mp h1 with e | h
      · rw [e]
        by_cases hij : i ≤ j
        · rw [Int.max_eq_right hij]; exact List.mem_cons_of_mem _ List.mem_cons_self
        · rw [Int.max_eq_left (by omega)]; exact List.mem_cons_self
      · exact List.mem_cons_of_mem _ (List.mem_cons_of_mem _ h)
    · show y ≤ r.foldl max (max i j)
      rcases List.mem_cons.mp hy with rfl | hy
      · omega
      rcases List.mem_cons.mp hy with rfl | hy
      · omega
      · exact h2 y (List.mem_cons_of_mem _ hy)
theorem maxI_ok {is : List Int} (h : 0 < is.length) : maxI is ∈ is ∧ ∀ y ∈ is, y ≤ maxI is := by
  cases is with
  | nil => cases h
  | cons i r => exact foldl_max r i
def bMaxL : Mem → List D → Option D
  | m, [d] => match lstD m d with
    | some ds => match toInts ds with
      | some is => if 0 < is.length then some (.int (maxI is)) else none
      | none => none
    | none => none
  | _, _ => none
theorem cb_maxL (hc : X.calm = true) : CB X (.builtin "max") bMaxL := by
  intro F φ m H ds d vs rp rv h Q q
  unfold bMaxL at h
  split at h
  · split at h
    · rename_i ds hd
      split at h
      · rename_i is e
        split at h
        · rename_i hl
          cases h
          obtain ⟨v, rfl, r⟩ := rv.one
          obtain ⟨q0, ws, rfl, hq, rvs⟩ := lstD_ok rp r hd
          have e2 := toInts_eq e
          subst e2
          have e3 := rvs.ints_inv
          subst e3
          refine ⟨_, cr_max hc, _, is, rfl, SqL.of hq, hl, fun k hk hle => ?_⟩
          obtain ⟨g1, g2⟩ := maxI_ok hl
          have : k = maxI is := Int.le_antisymm (g2 k hk) (hle _ g1)
          subst this
          exact q _ _ _ _ (Nxt.refl rp) (.int _)
        · cases h
      · cases h
    · cases h
  · cases h
/-! ### xs != [] -/
theorem op_neNil (hu : X.A.units < cLine) : OpR X (compareOp .NotEq) (fun x y H Q => ∃ a b xs, x = .ref a ∧ y = .ref b ∧ SqL X.K H a xs ∧ SqL X.K H b [] ∧ Q (.bl (!xs.isEmpty)) H) := by
  intro pins s σ H x y v u Q I rx ry h
  obtain ⟨a, b, xs, rfl, rfl, ha, hb, q⟩ := h
  cases rx
  cases ry
  obtain ⟨its, r, hl, _⟩ := I.list ha
  obtain ⟨its2, r2, hl2, _⟩ := I.list hb
  cases r2
  have fin : ∀ k : Bool, k = (!xs.isEmpty) → EP X pins σ Q (.bool k) s := fun k e => ⟨.bl k, H, I, rfl, by rw [e]; exact q⟩
  cases r with
  | nil => exact SeqAt.RcNeAt.lists (e := fun _ => true) hl.isList hl2.isList rfl hu (fun j h1 _ => absurd h1 (Nat.not_lt_zero _)) _ _ _ _ (fin _ rfl)
  | cons _ _ => exact SeqAt.RcNeAt.lists_lengths hl.isList hl2.isList (by simp) hu _ _ _ _ (fin _ rfl)
def eNeNil (fa : EF) : EF := fun ρ m => match fa ρ m with
  | some (d, m1) => match lstD m1 d with
    | some ds => some (.bl (!ds.isEmpty), m1)
    | none => none
  | none => none
def rNeNilL (K : PySem.W.Frag) : R2 := fun x y H Q => ∃ a b xs, x = .ref a ∧ y = .ref b ∧ SqL K H a xs ∧ SqL K H b [] ∧ Q (.bl (!xs.isEmpty)) H
theorem two_neNil (ha : JE X a fa) {F φ m H ρ σ d m'} (rp : Rep X.K F φ m H) (er : EnvR X.K F φ ρ σ) (hf : eNeNil fa ρ m = some (d, m')) (Q : VK) (q : ∀ F' φ' v H', Nxt X.K F φ m H F' φ' m' H' → VR X.K F' φ' d v → Q v H') :
    tOp (rNeNilL X.K) (WE X a) (tLst tNil) σ H Q := by
  unfold eNeNil at hf
  split at hf
  · rename_i d1 m1 h1
    split at hf
    · rename_i ds hd
      cases hf
      refine ha.run rp er h1 _ fun F1 φ1 v H1 n1 r1 => ⟨Nat.zero_le _, fun p' hp => ?_⟩
      have n2 := n1.rep.frozen (o := .lst []) hp
      obtain ⟨g, ws, rfl, hg, rw'⟩ := lstD_ok n2.rep (r1.mono n2.exF n2.pre) hd
      refine ⟨_, _, _, rfl, rfl, SqL.of hg, SqL.of upd_same, ?_⟩
      rw [rw'.isEmpty]
      exact q _ _ _ _ (n1.trans n2) (.bl _)
    · cases hf
  · cases hf
theorem j_neNil {lp : Pos} (hu : X.A.units < cLine) (ha : JE X a fa) : JE X (.Compare a [.NotEq] [.List [] lp] pos) (eNeNil fa) := ⟨fun {F φ m H ρ σ d m'} rp er hf Q q =>
  we_of (pe_cmpR (op_neNil hu) pe_w (pe_lst pa_nil) rfl) (two_neNil ha rp er hf Q q)⟩
theorem jt_neNil {lp : Pos} (hu : X.A.units < cLine) (ha : JE X a fa) : JT X (.Compare a [.NotEq] [.List [] lp] pos) (tV (eNeNil fa)) := ⟨fun {F φ m H ρ σ bb m'} rp er hf Q q => by
  refine wt_of (pt_cmpR (op_neNil hu) pe_w (pe_lst pa_nil) rfl) ?_
  unfold tV at hf
  split at hf
  · rename_i b' m1 h1
    cases hf
    refine two_neNil ha rp er h1 _ fun F' φ' v H' n r => ?_
    cases r
    exact ⟨_, rfl, q _ _ _ n⟩
  · cases hf⟩
/-! ### keywords in another order -/
def perm {α : Type} (is : List Nat) (xs : List α) : List α := is.filterMap fun i => xs[i]?
theorem VRs.perm {K : PySem.W.Frag} {F : Hp} {φ : List Addr} {ds : List D} {vs : List V} (r : VRs K F φ ds vs) : ∀ is : List Nat, VRs K F φ (VI.perm is ds) (VI.perm is vs)
  | [] => .nil
  | i :: is => by
    have ih := VRs.perm r is
    unfold VI.perm at ih ⊢
    cases h : ds[i]? with
    | none =>
      have h2 : vs[i]? = none := by
        rw [List.getElem?_eq_none_iff] at h ⊢
        rw [← r.len]; exact h
      rw [List.filterMap_cons, List.filterMap_cons, h, h2]
      exact ih
    | some d =>
      obtain ⟨v, h2, rv⟩ := r.get h
      rw [List.filterMap_cons, List.filterMap_cons, h, h2]
      exact .cons rv ih
theorem vals_perm {vs : List V} {us : List Value} (r : Vals vs us) : ∀ is : List Nat, Vals (VI.perm is vs) (VI.perm is us)
  | [] => .nil
  | i :: is => by
    have ih := vals_perm r is
    unfold VI.perm at ih ⊢
    cases h : vs[i]? with
    | none =>
      have h2 : us[i]? = none := by
        rw [List.getElem?_eq_none_iff] at h ⊢
        rw [← r.length]; exact h
      rw [List.filterMap_cons, List.filterMap_cons, h, h2]
      exact ih
    | some d =>
      obtain ⟨v, h2, rv⟩ := r.get h
      rw [List.filterMap_cons, List.filterMap_cons, h, h2]
      exact .cons rv ih
def aPerm (is : List Nat) (fr : AF) : AF := fun ρ m => match fr ρ m with
  | some (ds, m1) => if ds.length = is.length then some (perm is ds, m1) else none
  | none => none
/-- bound by keywords ks, in whatever order -/
structure FnP (P : Program) (w : World) (K : PySem.W.Frag) (mg : Str → Option Value) (base : Heap) (k : Nat) (x : Str) (ps ks : List Str) (is : List Nat) (g : FD) : Prop where
  ex : ∃ f fd, FnOk P w K mg base CX0 k f fd ps (spD K g) ∧ mg x = some (.ref f) ∧ PySem.W.keepIn K (.ref f) = true ∧ ∀ us : List Value, us.length = ks.length → bindArgs fd ⟨[], ks.zip us⟩ = pure (ps.zip (perm is us))
theorem FnP.of {P : Program} {w : World} {K : PySem.W.Frag} {mg : Str → Option Value} {base : Heap} {x qual : Str} {st : Stmt} {N ps ks : List Str} {is : List Nat} {k : Nat} {b : BF} (D : ∃ f fd, Fun K x qual st f fd ∧ mg x = some (.ref f)) (S : FnScope N ps (defScope st))
    (bk : ∀ (kV doc pm : Value) (an : Option Addr) (cdv ct : Value) (us : List Value), us.length = ks.length → bindArgs (PySem.W.fnOf x qual (defArgs st) (defBody st) (defScope st) .none kV doc pm an cdv ct) ⟨[], ks.zip us⟩ = pure (ps.zip (perm is us)))
    (body : Body P w K mg base k N qual st b) : FnP P w K mg base (k + 1) x ps ks is (fnD ps.length N.length b) := by
  obtain ⟨f, fd, F, gm⟩ := D
  refine ⟨f, fd, okD F S (body f), gm, F.kp, ?_⟩
  obtain ⟨oc, od, kV, doc, pm, an, cdv, ct, osl, rfl, lk, hcd⟩ := F.ex
  exact fun us hl => bk kV doc pm an cdv ct us hl
theorem j_callP {kws : List Keyword} {ks : List Str} {is : List Nat} (F : FnP X.prog X.w X.K X.mg X.base k x ps ks is g) (hr : Room k X.A) (ha : JK X kws fr) (hki : is.length = ks.length := by rfl) (hks : (backToKw pos (keywordEach kws X.env)).filterMap (·.1) = ks := by rfl) (hg : Gl X x := by rfl)
    (hall : (backToKw pos (keywordEach kws X.env)).all (·.1.isSome) = true := by rfl) (hdb : (x == ("__debug__" : Str)) = false := by decide)
    (hpl : ((backTo pos (starEach [] X.env)).any (·.1) || (backToKw pos (keywordEach kws X.env)).any (·.1.isNone)) = false := by rfl) : JE X (.Call (.Name x p) [] kws pos) (eCall g (aPerm is fr)) := ⟨fun {F0 φ m H ρ σ d m'} rp er hf Q q => by
  obtain ⟨f, fd, F, hm, hk, hbk⟩ := F.ex
  unfold eCall aPerm at hf
  split at hf
  · rename_i ds m1 h1
    split at h1
    · rename_i ds0 m0 h0
      split at h1
      · rename_i hlen
        cases h1
        intro pins s I
        refine wpAny_Call_Name_kw (ld_glob I hg hm ?_ hdb)
        refine PySem.W.callWith_KW0 (h₀ := X.base) I.ok.mod.kin hk hall ?_ hpl
        refine thn (ha.run rp er h0 (fun vs H1 => vs.length = ks.length ∧ spD X.K g (perm is vs) H1 Q E0) (fun F1 φ1 vs H1 n1 r1 => ⟨by rw [← r1.len, hlen, hki], F1, φ1, m1, perm is ds0, d, m', n1.rep, r1.perm is, hf, fun F' φ' v H' n r => q _ _ _ _ (n1.trans n) r⟩) pos pins s I) fun ws s2 ⟨zs, H2, I2, rz, q1, q2⟩ => ⟨I2.kIn, ?_⟩
        rw [hks]
        have hl : ws.length = ks.length := by rw [← rz.length]; exact q1
        refine wpAny_call (codeAny_mono (F.run X.A X.stack s2 H2 ⟨[], ks.zip ws⟩ (perm is ws) (perm is zs) Q E0 hr I2.env0 (.of_eq (hbk ws hl)) (vals_perm rz is) q2) fun r s' hq => ?_)
        cases r with
        | error e => exact hq.elim
        | ok fl =>
          cases fl with
          | ret u => exact I2.after hq
          | next => exact hq.elim
          | brk => exact hq.elim
          | cont => exact hq.elim
      · cases h1
    · cases h1
  · cases hf⟩
end
end VI
end
section
namespace VI
open PySem PySem.Spec PyProof.Rows L2
/-! ### {elt for tg in iter} of texts -/
def SetTO (P : Program) (w : World) (a : Addr) (S : Str → Bool) (n : Nat) : HO := .ext fun h => Heap.SetOf (strKind P w) h a S n
theorem setT_fresh {h : Heap} (P : Program) (w : World) :
    Heap.SetOf (strKind P w) (h.push { cls := Value.type "set", data := Data.set #[] 0 (SetTable.fresh 0 0 !w.params.followText "set-order") }) h.objs.size (fun _ => false) 0 := by
  obtain ⟨o, es, ep, t, h1, h2, h3, h4, h5, h6, h7, h8, h9⟩ := PpSet.setB_fresh (h := h) w
  obtain ⟨f1, f2, f3⟩ := h9
  have he : es = #[] := by
    have := f2
    apply Array.eq_empty_of_size_eq_zero
    first | exact h9.1 | omega
  subst he
  exact ⟨o, #[], ep, t, h1, h2, h3, (fun e he => by simp at he), (fun k => by simp), h7, h8, rfl⟩
theorem setTO_get {X : Cx} {pins : List (Addr × Obj)} {σ : L2.St} {H : Hp} {s : Shared} {a : Addr} {S : Str → Bool} {n : Nat} (I : Inv X pins σ H s) (ha : H a = some (SetTO X.prog X.w a S n)) :
    Heap.SetOf (strKind X.prog X.w) s.heap a S n := (I.hok a _ ha).1
theorem setTO_new {P : Program} {w : World} {H : Hp} {h : Heap} {a : Addr} {S : Str → Bool} {n : Nat} (R : Heap.SetOf (strKind P w) h a S n) : ObjOk P w H h a (SetTO P w a S n) := by
  obtain ⟨o, es, ep, t, ho, r⟩ := R
  exact ⟨⟨o, es, ep, t, ho, r⟩, ⟨⟨o, ho⟩, fun h1 h2 ⟨o', es', ep', t', ho', r'⟩ k => ⟨o', es', ep', t', k _ ho', r'⟩⟩⟩
theorem addT_ok {X : Cx} {pins : List (Addr × Obj)} {σ : L2.St} {H : Hp} {s : Shared} {E : Value → Shared → Prop} {D : Addr} {S : Str → Bool} {n : Nat} {y : Str} {tk : Tok} {Q : Value → Shared → Prop}
    (I : Inv X pins σ H s) (hD : H D = some (SetTO X.prog X.w D S n)) (room : n + 1 < scanBound)
    (h : ∀ s', Inv X pins σ (upd H D (SetTO X.prog X.w D (fun j => S j || decide (j = y)) (if S y = true then n else n + 1))) s' → Q Value.none s') :
    wpAny (model X.prog X.w) X.A (call (Value.builtin "set.add") [Value.ref D, Value.str y tk]) Q E s := by
  have R := setTO_get I hD
  refine call_set_add (knd := strKind X.prog X.w) (k := y) ?_ rfl R room fun h' sb new => ?_
  · show Value.isStrOf y (Value.str y tk) = true
    simp [Value.isStrOf]
  · have he : ∃ u, h'.get? D = some u := by obtain ⟨o, _, _, _, ho, _⟩ := new; exact ⟨o, ho⟩
    exact h _ (I.write (by rw [hD]; trivial) (.inl rfl) (fun b u hb hu => (sb.2 b hb).trans hu) he (setTO_new new))
def tScT (P : Program) (w : World) (wi : TI) (g : TG) (tt : TT) (te : TE) (vs : List Nat) : TE := fun σ H Q =>
  wi σ H fun J H1 => ∀ D, H1 D = none → ∃ W : Nat → Nat → Hp → Prop, (∃ m, W 0 m (upd H1 D (SetTO P w D (fun _ => false) 0))) ∧
    ∀ i m H, W i m H → (J.stop i H ∧ Q (.ref D) H) ∨ (J.go i H ∧ ∃ Nx : Hp → Prop, (∀ H', Nx H' → ∃ m', m' < m ∧ W (i + 1) m' H') ∧
      ∀ x H', J.yld i H x H' → g x (L2.wipe σ vs) H' fun σ2 H2 => L2.wipe σ2 vs = L2.wipe σ vs ∧
        tt σ2 H2 fun b H3 => if b = true then te σ2 H3 fun y H4 => ∃ (c : Str) (S : Str → Bool) (n : Nat), y = .str c ∧ H4 D = some (SetTO P w D S n) ∧ n + 1 < scanBound ∧
          Nx (upd H4 D (SetTO P w D (fun j => S j || decide (j = c)) (if S c = true then n else n + 1))) else Nx H3)
theorem sc_coreT {X : Cx} {pins : List (Addr × Obj)} {s : Shared} {σ : L2.St} {H : Hp} {Q : VK} {elt tg iter : Expr} {ifs : List Expr} {scope : Scope} {own : List (Str × Nat)} {pos pos' : Pos}
    {wi : TI} {g : TG} {tt : TT} {te : TE} {use : Option (Value → Sem Unit)} {Qf : Value → Shared → Prop}
    (hc : X.calm = true) (hN : X.N.Nodup) (I : Inv X pins σ H s) (hi : PI X tg iter wi) (ok : BlkOk X.N X.env.scope scope own)
    (hg : ∀ (s : Shared) (H : Hp) (C : Addr) (cl : List (Str × Addr)) (fp : List Addr), PG (X.blk s H scope (compEnvC scope cl C X.env) fp) tg g)
    (ht : ∀ (s : Shared) (H : Hp) (C : Addr) (cl : List (Str × Addr)) (fp : List Addr), PTs (X.blk s H scope (compEnvC scope cl C X.env) fp) ifs tt)
    (he : ∀ (s : Shared) (H : Hp) (C : Addr) (cl : List (Str × Addr)) (fp : List Addr), PE (X.blk s H scope (compEnvC scope cl C X.env) fp) elt te)
    (hs : ∀ x, foldedSetIterable iter X.env x = pure x) (h : tScT X.prog X.w wi g tt te (own.map (·.2)) σ H Q)
    (hRR : ∀ (D C : Addr) (s' : Shared) (m : Str → Option Value) (H' : Hp), Inv X pins σ H' s' → Q (.ref D) H' → s'.heap.Ns C m → FpOk X pins H' C → compPost (model X.prog X.w) X.A X.xe use Qf (.ref D) C (.ok .next) s') :
    wpAny (model X.prog X.w) X.A (comprehension (elt.SetComp [⟨tg, iter, ifs, 0⟩] scope pos) scope X.env pos' (newSet (.type "set")) false (eval iter X.env) use) Qf X.xe s := by
  have hfree : ∀ y ∈ scope.names, y.2 = NameKind.free → ∃ c, List.lookup y.1 X.env.cells = some c := fun y hy e => by
    rcases ok.free y hy e with k | k
    · exact I.ok.has y.1 (.inl k)
    · exact I.ok.has y.1 (.inr k)
  refine wpAny_comprehension_free rfl hs (closure_ok hfree) ok.kind (fun y hy e => by rw [ok.uniq y hy, e]) ?_
  refine thn (hi.run pins s σ H _ I h) fun xv s1 hx => thn hx fun itv s2 h2 => ?_
  obtain ⟨it, fp, tn, J, H2, rfl, I2, T, st2, f2, q⟩ := h2
  refine PpSet.newSet_ok (newEnv_comp ?_)
  have hDn := I2.hok.fresh (Nat.le_refl s2.heap.objs.size)
  obtain ⟨W, ⟨m0, w0⟩, turn⟩ := q s2.heap.objs.size hDn
  generalize hS3 : ({ heap := s2.heap.push { cls := Value.type "set", data := Data.set #[] 0 (SetTable.fresh 0 0 !X.w.params.followText "set-order") }, gens := s2.gens, drawn := s2.drawn, toks := s2.toks, os := s2.os } : Shared) = s3
  generalize hH3 : upd H2 s2.heap.objs.size (SetTO X.prog X.w s2.heap.objs.size (fun _ => false) 0) = H3 at w0
  have I3 : Inv X pins σ H3 s3 := by
    subst hS3 hH3
    exact I2.laid (fun b o e => Heap.get?_push_of_some _ e) (Nat.le_refl _) (setTO_new (setT_fresh _ _))
  have h3 : s3.heap = s2.heap.push { cls := Value.type "set", data := Data.set #[] 0 (SetTable.fresh 0 0 !X.w.params.followText "set-order") } := by subst hS3; rfl
  have sz : ∀ b ∈ fp, b < s2.heap.objs.size := fun b hb => by
    obtain ⟨o, e, _⟩ := T.obj 0 s2.heap st2 b hb
    exact Heap.lt_size e
  have f3 : ∀ b ∈ fp, FpOk X pins H3 b ∧ b < s3.heap.objs.size := fun b hb => by
    have hlt := sz b hb
    refine ⟨⟨?_, (f2 b hb).2⟩, ?_⟩
    · rw [← hH3, upd_ne (Nat.ne_of_lt hlt)]; exact (f2 b hb).1
    · rw [h3, Heap.size_push]; exact Nat.lt_succ_of_lt hlt
  have st3 : tn 0 s3.heap := T.keep 0 s2.heap s3.heap st2 fun b x o e => by rw [h3]; exact Heap.get?_push_of_some _ e
  have I4 := block_start I3 ok hN f3
  have pg := hg s3 H3 s3.heap.objs.size (cellsFrom (s3.heap.objs.size + 1) scope.names (cloFrom X.env.cells scope.names [])) fp
  have pt := ht s3 H3 s3.heap.objs.size (cellsFrom (s3.heap.objs.size + 1) scope.names (cloFrom X.env.cells scope.names [])) fp
  have pe := he s3 H3 s3.heap.objs.size (cellsFrom (s3.heap.objs.size + 1) scope.names (cloFrom X.env.cells scope.names [])) fp
  have nfp : ∀ b ∈ fp, H3 b = none := fun b hb => (f3 b hb).1.1
  generalize hS4 : ({ heap := pushCells (s3.heap.push { cls := Value.type "dict", data := Data.dict #[] }) scope.names, gens := s3.gens, drawn := s3.drawn, toks := s3.toks, os := s3.os } : Shared) = s4 at I4
  have st4 : tn 0 s4.heap := T.keep 0 s3.heap s4.heap st3 fun b x o e => by
    rw [← hS4]
    exact pushCells_keeps scope.names _ b o (Heap.get?_push_of_some _ e)
  generalize hce : compEnvC scope (cellsFrom (s3.heap.objs.size + 1) scope.names (cloFrom X.env.cells scope.names [])) s3.heap.objs.size X.env = ce at I4 pg pt pe
  have cL : ce.locals = s3.heap.objs.size := by subst hce; rfl
  have stat : ∀ {σ' H' s'}, Inv (X.blk s3 H3 scope ce fp) [] σ' H' s' → (∀ b ∈ fp, H' b = none) → ∀ b ∈ fp, FpOk (X.blk s3 H3 scope ce fp) [] H' b := fun {σ' H' s'} I' hn b hb =>
    ⟨hn b hb, (I'.ok.exf b hb).1, I'.ok.exfs b hb, .inl hb, fun x c e => (I'.ok.exf b hb).2 x c e, fun p hp => absurd hp (by simp [Cx.blk])⟩
  have loop := PpSet.compLoopS_any (prog := X.prog) (w := X.w) (A := X.A) (R := compPost (model X.prog X.w) X.A X.xe use Qf (.ref s2.heap.objs.size) s3.heap.objs.size) (s := s4) (env := ce) (elt := elt) (target := tg) (iter := iter) (ifs := ifs) (scope := scope) (pos := pos) (it := .ref it) (acc := .ref s2.heap.objs.size)
    (fun n s' => ∃ i H', Inv (X.blk s3 H3 scope ce fp) [] (L2.wipe σ (own.map (·.2))) H' s' ∧ tn i s'.heap ∧ (∀ b ∈ fp, H' b = none) ∧ W i n H')
    (by
      rintro n s5 ⟨i, H5, I5, st5, n5, w5⟩
      rcases turn i n H5 w5 with ⟨stop, qq⟩ | ⟨go, Nx, hNx, step⟩
      · have td := T.done (X.blk s3 H3 scope ce fp) rfl rfl rfl hc i [] s5 _ H5 (fun _ _ => False) I5 (stat I5 n5) st5 stop
        refine thnF td fun r s6 hx => ?_
        obtain ⟨hr, I6⟩ := hx
        subst hr
        have I7 := I3.call' I6.os I6.base I6.hok I6.bare fun b hb => by
          have := (f3 b hb).1
          exact ⟨this.2.2.2.1, this.2.1, this.2.2.2.2.1, this.2.2.2.2.2⟩
        have nC : H5 s3.heap.objs.size = none := by rw [← cL]; exact I6.free
        obtain ⟨m, hn, _⟩ := I6.loc
        have hn' : s6.heap.Ns s3.heap.objs.size m := by rw [← cL]; exact hn
        exact hRR _ _ _ m _ I7 qq hn' (I3.fpOk (Nat.le_refl _) nC)
      · have ti := T.item (X.blk s3 H3 scope ce fp) rfl rfl rfl hc i [] s5 _ H5 (fun _ _ => False) I5 (stat I5 n5) st5 go
        refine thnF ti fun r s6 hx => ?_
        obtain ⟨u, hr, h6⟩ := hx
        subst hr
        refine thnF h6 fun x s7 hx => ?_
        obtain ⟨xv, H7, I7, r7, y7, st7, n7⟩ := hx
        have I7' := I7.pinned (stat I7 n7) (T.obj (i + 1) s7.heap st7)
        refine thnF (pg.run ([] ++ pinsAt fp s7.heap) s7 _ H7 xv u _ I7' r7 (step xv H7 y7)) fun x s8 hx => ?_
        obtain ⟨σ8, H8, I8, hw8, q8⟩ := hx
        refine thnF (pt.run ([] ++ pinsAt fp s7.heap) s8 σ8 H8 _ I8 q8) fun b s9 hx => ?_
        obtain ⟨H9, I9, q9⟩ := hx
        have fin : ∀ {s' H'}, Inv (X.blk s3 H3 scope ce fp) ([] ++ pinsAt fp s7.heap) σ8 H' s' → Nx H' → ∃ m, m < n ∧ ∃ i H', Inv (X.blk s3 H3 scope ce fp) [] (L2.wipe σ (own.map (·.2))) H' s' ∧ tn i s'.heap ∧ (∀ b ∈ fp, H' b = none) ∧ W i m H' := fun {s' H'} I' nx => by
          obtain ⟨m', hm, w'⟩ := hNx H' nx
          have pin' : ∀ b ∈ fp, ∀ o, s7.heap.get? b = some o → s'.heap.get? b = some o ∧ H' b = none := fun b hb o e => by
            have z := I'.pin (b, o) (List.mem_append_right _ (List.mem_append_right [] (mem_pinsAt hb e)))
            exact ⟨z.1, z.2.1⟩
          have hl : (L2.wipe σ (own.map (·.2))).length = σ8.length := by rw [← hw8, wipe_length]
          refine ⟨m', hm, i + 1, H', I'.unpinned.weak hl fun j v e => ?_, T.keep (i + 1) s7.heap s'.heap st7 fun b hb o e => (pin' b hb o e).1, fun b hb => ?_, w'⟩
          · rw [← hw8] at e
            exact (wipe_some e).1
          · obtain ⟨o, e, _⟩ := T.obj (i + 1) s7.heap st7 b hb
            exact (pin' b hb o e).2
        cases b with
        | false =>
          rw [if_neg Bool.false_ne_true] at q9 ⊢
          exact fin I9 q9
        | true =>
          rw [if_pos rfl] at q9 ⊢
          refine thnF (pe.run ([] ++ pinsAt fp s7.heap) s9 σ8 H9 _ I9 q9) fun z s10 hx => ?_
          obtain ⟨yv, H10, I10, r10, cb, S0, n0, ey, hD10, hz10, nx⟩ := hx
          subst ey
          obtain ⟨tk, rfl⟩ := r10
          exact addT_ok (X := X.blk s3 H3 scope ce fp) I10 hD10 hz10 fun s11 I11 => fin I11 nx)
    m0 ⟨0, H3, I4, st4, nfp, w0⟩
  subst hce
  have := PpSet.codeAny_compStart_set loop (T.self X.A 0 s4 _ _ st4 loop)
  subst hS4 hS3
  exact this
end VI
end
section
namespace VI
open PySem PySem.Spec PyProof.Rows L2
/-! ### len({elt for tg in iter}), texts -/
theorem call_len_setT {X : Cx} : CallR X (.builtin "len") fun xs H Q => ∃ D S n, xs = [.ref D] ∧ H D = some (SetTO X.prog X.w D S n) ∧ n < scanBound ∧ Q (.int (n : Int)) H := by
  rintro pins s σ H xs us Q I r ⟨D, S, n, rfl, hD, hn, q⟩
  obtain ⟨u, rfl, ru⟩ := vals1 r
  cases ru
  obtain ⟨o, es, ep, t, h1, h2, h3, h4, h5, h6, h7, h8⟩ := setTO_get I hD
  refine call_len_set h1 h2 h3 h7 (by have := h6; unfold scanBound at this; omega) ⟨.int (es.size : Int), H, I.tok _, ⟨_, rfl⟩, by rw [h8]; exact q⟩
def dstep (seen : List (List Nat)) (x : List Nat) : List (List Nat) := if x ∈ seen then seen else seen ++ [x]
def dset (xs : List (List Nat)) : List (List Nat) := xs.foldl dstep []
theorem dset_app (xs : List (List Nat)) (x : List Nat) : dset (xs ++ [x]) = dstep (dset xs) x := by unfold dset; rw [List.foldl_append]; rfl
theorem dset_lenA : ∀ (xs seen : List (List Nat)), (xs.foldl dstep seen).length ≤ seen.length + xs.length := by
  intro xs
  induction xs with
  | nil => intro seen; simp
  | cons x xs ih =>
    intro seen
    rw [List.foldl_cons]
    have h := ih (dstep seen x)
    have h2 : (dstep seen x).length ≤ seen.length + 1 := by
      unfold dstep
      split
      · omega
      · simp
    rw [List.length_cons]
    omega
theorem dset_len (xs : List (List Nat)) : (dset xs).length ≤ xs.length := by
  have := dset_lenA xs []
  simpa [dset] using this
theorem map_str_app : ∀ {as bs : List D} {xs : List (List Nat)}, xs.map D.str = as ++ bs → ∃ ys zs, as = ys.map D.str ∧ bs = zs.map D.str ∧ xs = ys ++ zs := by
  intro as bs xs h
  obtain ⟨u, v, h1, h2, h3⟩ := List.map_eq_append_iff.mp h
  exact ⟨u, v, h2.symm, h3.symm, h1⟩
theorem str_inj : ∀ {as bs : List (List Nat)}, as.map D.str = bs.map D.str → as = bs
  | [], [], _ => rfl
  | a :: as, b :: bs, h => by
    rw [List.map_cons, List.map_cons] at h
    injection h with h1 h2
    injection h1 with h1
    rw [h1, str_inj h2]
  | [], _ :: _, h => nomatch h
  | _ :: _, [], h => nomatch h
theorem compV_pre {own : List Nat} {ρ : Env} {g : GF} {tc : TF} {fe : EF} : ∀ (ds acc res : List D) (m m' : Mem), compV own g tc fe ρ ds acc m = some (res, m') → ∃ r, res = acc ++ r
  | [], acc, res, m, m', h => by cases h; exact ⟨[], by simp⟩
  | d :: ds, acc, res, m, m', h => by
    unfold compV at h
    split at h
    · split at h
      · split at h
        · obtain ⟨r, rfl⟩ := compV_pre ds _ res _ m' h
          exact ⟨_, List.append_assoc _ _ _⟩
        · cases h
      · exact compV_pre ds _ res _ m' h
      · cases h
    · cases h
def eLenSc (own : List Nat) (it : AF) (g : GF) (c : TF) (e : EF) : EF := fun ρ m => match aComp own it g c e ρ m with
  | some (res, m1) => match toStrs res with
    | some xs => if res.length ≤ 4000 then some (.int (dset xs).length, m1) else none
    | none => none
  | none => none
section
variable {X : Cx} {a b c e elt tg iter : Expr} {es ifs : List Expr} {pos p cpos : Pos} {fa fb fc fe : EF} {g : GF} {ws : List Nat} {tc : TF} {fi fr : AF}
theorem scT_read (own : List (Str × Nat)) {scope : Scope} (hi : JI X tg iter fi)
    (hg : ∀ (s : Shared) (H : Hp) (C : Addr) (cl : List (Str × Addr)) (fp : List Addr), JG (X.blk s H scope (compEnvC scope cl C X.env) fp) tg g ws)
    (ht : ∀ (s : Shared) (H : Hp) (C : Addr) (cl : List (Str × Addr)) (fp : List Addr), JC (X.blk s H scope (compEnvC scope cl C X.env) fp) ifs tc)
    (he : ∀ (s : Shared) (H : Hp) (C : Addr) (cl : List (Str × Addr)) (fp : List Addr), JE (X.blk s H scope (compEnvC scope cl C X.env) fp) elt fe)
    (hws : ∀ i ∈ ws, i ∈ own.map (·.2))
    {F φ m H ρ σ d m'} (rp : Rep X.K F φ m H) (er : EnvR X.K F φ ρ σ) (hf : eLenSc (own.map (·.2)) fi g tc fe ρ m = some (d, m'))
    (Q : VK) (q : ∀ F' φ' (D : Addr) (S : Str → Bool) (n : Nat) H', Nxt X.K F φ m H F' φ' m' H' → d = .int (n : Int) → n < scanBound → H' D = some (SetTO X.prog X.w D S n) → Q (.ref D) H') :
    tScT X.prog X.w (WI X tg iter) (gB X scope tg) (tB2 X scope ifs) (eB X scope elt) (own.map (·.2)) σ H Q := by
  unfold eLenSc aComp at hf
  split at hf
  · rename_i res m1 h1
    split at hf
    · rename_i xs hxs
      split at hf
      · rename_i hres
        cases hf
        have hxs := toStrs_eq hxs
        split at h1
        · rename_i ds m2 h2
          split at h1
          · rename_i hsz
            refine hi.run rp er h2 _ fun F1 φ1 J H1 n1 it D hD => ?_
            have er1 := er.mono n1.exF n1.pre
            have hFD := n1.rep.fresh_F hD
            have hLD := n1.rep.fresh_L hD
            refine ⟨fun i k H => ∃ F φ m acc ys, k = ds.length - i ∧ i ≤ ds.length ∧ Nxt X.K F1 φ1 m2 H1 F φ m H ∧ H D = some (SetTO X.prog X.w D (fun j => decide (j ∈ (dset ys).map S)) (dset ys).length) ∧ acc = ys.map VI.D.str ∧ ¬ Live φ m D ∧ F D = none ∧ compV (own.map (·.2)) g tc fe ρ (ds.drop i) acc m = some (res, m'),
              ⟨ds.length, F1, φ1, m2, [], [], rfl, Nat.zero_le _, (Nxt.refl n1.rep).mut hD hLD hFD, ?_, rfl, hLD, hFD, by rw [List.drop_zero]; exact h1⟩, ?_⟩
            · rw [upd_same]; rfl
            rintro i k H2 ⟨F2, φ2, m3, acc, ys, rfl, hle, n2, hD2, rv2, hL2, hF2, hf2⟩
            have ex2 := n2.exF
            have pr2 := n2.pre
            by_cases hlt : i < ds.length
            · refine .inr ⟨it.go i H2 (ex2.trans n2.rep.ex) hlt, fun H' => ∃ F φ m acc ys, i + 1 ≤ ds.length ∧ Nxt X.K F1 φ1 m2 H1 F φ m H' ∧ H' D = some (SetTO X.prog X.w D (fun j => decide (j ∈ (dset ys).map S)) (dset ys).length) ∧ acc = ys.map VI.D.str ∧ ¬ Live φ m D ∧ F D = none ∧ compV (own.map (·.2)) g tc fe ρ (ds.drop (i + 1)) acc m = some (res, m'),
                fun H' ⟨F', φ', m'', acc', ys', a1, a2⟩ => ⟨ds.length - (i + 1), by omega, F', φ', m'', acc', ys', rfl, a1, a2⟩, fun x H3 hy s0 H0 C cl fp => ?_⟩
              obtain ⟨F3, n3, r3⟩ := it.yld i F2 φ2 m3 H2 x H3 ds[i] n2.rep ex2 pr2 (List.getElem?_eq_getElem hlt) hy
              obtain ⟨hD3, hL3, hF3⟩ := n3.keep D _ hD2 hL2
              have n13 := n2.trans n3
              rw [List.drop_eq_getElem_cons hlt] at hf2
              unfold compV at hf2
              split at hf2
              · rename_i ρ4 m4 e4
                have er3 := (er1.mono n13.exF n13.pre).wipe (own.map (·.2))
                refine (hg s0 H0 C cl fp).run n3.rep er3 r3 e4 _ fun F4 φ4 σ4 H4 n4 er4 bt => ⟨wipe_but hws bt, fun s0 H0 C cl fp => ?_⟩
                obtain ⟨hD4, hL4, hF4⟩ := n4.keep D _ hD3 hL3
                have n14 := n13.trans n4
                split at hf2
                · rename_i m5 e5
                  refine (ht s0 H0 C cl fp).run n4.rep er4 e5 _ fun F5 φ5 H5 n5 => ?_
                  obtain ⟨hD5, hL5, hF5⟩ := n5.keep D _ hD4 hL4
                  have n15 := n14.trans n5
                  rw [if_pos rfl]
                  intro s0 H0 C cl fp
                  split at hf2
                  · rename_i y m6 e6
                    refine (he s0 H0 C cl fp).run n5.rep (er4.mono n5.exF n5.pre) e6 _ fun F6 φ6 vy H6 n6 r6 => ?_
                    obtain ⟨hD6, hL6, hF6⟩ := n6.keep D _ hD5 hL5
                    have n16 := n15.trans n6
                    have hF6' : F6 D = none := by rw [hF6, hF5, hF4, hF3, hF2]
                    obtain ⟨rr, hrr⟩ := compV_pre _ _ _ _ _ hf2
                    have hxs2 : xs.map VI.D.str = (acc ++ [y]) ++ rr := by rw [← hxs]; exact hrr
                    obtain ⟨us, us2, hu1, hu2, hu⟩ := map_str_app hxs2
                    obtain ⟨us3, us4, hu3, hu4, hu5⟩ := map_str_app hu1.symm
                    have hy : ∃ z, y = VI.D.str z := by
                      match us4, hu4 with
                      | [z], h => exact ⟨z, by simpa using h⟩
                    obtain ⟨z, rfl⟩ := hy
                    · cases r6
                      have hl6 : (dset ys).length + 1 < scanBound := by
                        have a1 := dset_len ys
                        have a2 : acc.length = ys.length := by rw [rv2, List.length_map]
                        have a3 : acc.length ≤ res.length := by rw [hrr]; simp
                        have : scanBound = 4096 := rfl
                        omega
                      refine ⟨S z, _, _, rfl, hD6, hl6, F6, φ6, m6, acc ++ [.str z], ys ++ [z], hlt, n16.mut hD hL6 hF6', ?_, by rw [rv2, List.map_append]; rfl, hL6, hF6', hf2⟩
                      have hSm : ∀ {w : List Nat} {l : List (List Nat)}, S w ∈ l.map S ↔ w ∈ l := by
                        intro w l
                        rw [List.mem_map]
                        exact ⟨fun ⟨v, h1, h2⟩ => S_inj h2 ▸ h1, fun h => ⟨w, h, rfl⟩⟩
                      rw [upd_same, dset_app]
                      congr 2
                      · funext j
                        unfold dstep
                        by_cases hz : z ∈ dset ys
                        · rw [if_pos hz]
                          by_cases hj : j = S z
                          · subst hj; simp only [hSm, hz, decide_true, Bool.or_self]
                          · simp only [hj, decide_false, Bool.or_false]
                        · rw [if_neg hz, List.map_append]
                          simp only [List.mem_append, Bool.decide_or, List.map_cons, List.map_nil, List.mem_singleton]
                      · unfold dstep
                        by_cases hz : z ∈ dset ys
                        · rw [if_pos hz, if_pos (decide_eq_true (hSm.mpr hz))]
                        · rw [if_neg hz, if_neg (fun h => hz (hSm.mp (of_decide_eq_true h))), List.length_append]; rfl
                  · cases hf2
                · rename_i m5 e5
                  refine (ht s0 H0 C cl fp).run n4.rep er4 e5 _ fun F5 φ5 H5 n5 => ?_
                  obtain ⟨hD5, hL5, hF5⟩ := n5.keep D _ hD4 hL4
                  have n15 := n14.trans n5
                  rw [if_neg Bool.false_ne_true]
                  exact ⟨F5, φ5, m5, acc, ys, hlt, n15, hD5, rv2, hL5, by rw [hF5, hF4, hF3, hF2], hf2⟩
                · cases hf2
              · cases hf2
            · have hi' : i = ds.length := by omega
              subst hi'
              rw [List.drop_length] at hf2
              cases hf2
              have hxy : xs = ys := str_inj (by rw [← hxs, ← rv2])
              rw [← hxy] at hD2
              refine .inl ⟨it.stop _ H2 (ex2.trans n2.rep.ex) (Nat.le_refl _), q _ _ _ _ _ _ (n1.trans n2) rfl ?_ hD2⟩
              have a1 := dset_len xs
              have a2 := congrArg List.length hxs
              rw [List.length_map] at a2
              have : scanBound = 4096 := rfl
              omega
          · cases h1
        · cases h1
      · cases hf
    · cases hf
  · cases hf
end
end VI
end
section
namespace VI
open PySem PySem.Spec PyProof.Rows L2
section
variable {X : Cx} {a b c e elt tg iter : Expr} {es ifs : List Expr} {x : Str} {pos p cpos : Pos} {fa fb fc fe : EF} {g : GF} {ws : List Nat} {tc : TF} {fi fr : AF}
theorem pe_scT {own : List (Str × Nat)} {scope : Scope} {wi : TI} {g : TG} {tt : TT} {te : TE}
    (hc : X.calm = true) (hN : X.N.Nodup) (hi : PI X tg iter wi) (ok : BlkOk X.N X.env.scope scope own)
    (hg : ∀ (s : Shared) (H : Hp) (C : Addr) (cl : List (Str × Addr)) (fp : List Addr), PG (X.blk s H scope (compEnvC scope cl C X.env) fp) tg g)
    (ht : ∀ (s : Shared) (H : Hp) (C : Addr) (cl : List (Str × Addr)) (fp : List Addr), PTs (X.blk s H scope (compEnvC scope cl C X.env) fp) ifs tt)
    (he : ∀ (s : Shared) (H : Hp) (C : Addr) (cl : List (Str × Addr)) (fp : List Addr), PE (X.blk s H scope (compEnvC scope cl C X.env) fp) elt te)
    (hs : ∀ x, foldedSetIterable iter X.env x = pure x) :
    PE X (.SetComp elt [⟨tg, iter, ifs, 0⟩] scope pos) (tScT X.prog X.w wi g tt te (own.map (·.2))) := ⟨fun pins s σ H Q I h => by
  rw [PpSet.eval_SetComp]
  refine sc_coreT hc hN I hi ok hg ht he hs h fun D C s' m H' I' q hn f => ⟨m, hn, fun h'' sb => ?_⟩
  obtain ⟨f0, f1, f2, f3, f4, f5⟩ := f
  exact ⟨V.ref D, H', I'.turned (fun b o hb e => (sb.2 b hb).trans e) f0 f1 f3 f4 f5, rfl, q⟩⟩
theorem j_lenSc (own : List (Str × Nat)) {scope : Scope} (hc : X.calm = true) (hN : X.N.Nodup) (hi : JI X tg iter fi) (hok : BlkOk X.N X.env.scope scope own)
    (hg : ∀ (s : Shared) (H : Hp) (C : Addr) (cl : List (Str × Addr)) (fp : List Addr), JG (X.blk s H scope (compEnvC scope cl C X.env) fp) tg g ws)
    (ht : ∀ (s : Shared) (H : Hp) (C : Addr) (cl : List (Str × Addr)) (fp : List Addr), JC (X.blk s H scope (compEnvC scope cl C X.env) fp) ifs tc)
    (he : ∀ (s : Shared) (H : Hp) (C : Addr) (cl : List (Str × Addr)) (fp : List Addr), JE (X.blk s H scope (compEnvC scope cl C X.env) fp) elt fe)
    (hws : ∀ i ∈ ws, i ∈ own.map (·.2)) (hm : X.mg x = none) (hv : bootBuiltins x = some (.builtin "len")) (hs : ∀ x, foldedSetIterable iter X.env x = pure x := by intro _; rfl)
    (hgl : Gl X x := by rfl) (hn : x ≠ "__name__" := by decide) (hdb : (x == ("__debug__" : Str)) = false := by decide)
    (hst : starEach [.SetComp elt [⟨tg, iter, ifs, 0⟩] scope pos] X.env = (false, eval (.SetComp elt [⟨tg, iter, ifs, 0⟩] scope pos) X.env) :: starEach [] X.env := by rfl) (hpl : (backTo cpos (starEach [] X.env)).any (·.1) = false := by rfl) :
    JE X (.Call (.Name x p) [.SetComp elt [⟨tg, iter, ifs, 0⟩] scope pos] [] cpos) (eLenSc (own.map (·.2)) fi g tc fe) := ⟨fun {F φ m H ρ σ d m'} rp er hf Q q => by
  refine we_of (pe_callB call_len_setT hgl hm hv (pa_cons (pe_scT (own := own) (g := gB X scope tg) (tt := tB2 X scope ifs) (te := eB X scope elt) hc hN pi_w hok
    (fun s0 H0 C cl fp => ⟨fun pins s σ H v u Q I r h => h s0 H0 C cl fp pins s u I r⟩) (fun s0 H0 C cl fp => ⟨fun pins s σ H Q I h => h s0 H0 C cl fp pins s I⟩)
    (fun s0 H0 C cl fp => ⟨fun pins s σ H Q I h => h s0 H0 C cl fp pins s I⟩) hs) pa_nil hst) hn hdb hst hpl) ?_
  show tCons _ _ _ _ _
  refine scT_read own hi hg ht he hws rp er hf _ fun F' φ' D S n H' nx hd hn hD => ?_
  subst hd
  exact ⟨D, S, n, rfl, hD, hn, q _ _ _ _ nx (.int _)⟩⟩
end
end VI
end
section
namespace VI
open PySem PySem.Spec PyProof.Rows L2
/-! ### list(zip(xs, ys)) -/
theorem wpAny_alive {M : Model} {A : Around} {E : Value → Shared → Prop} {s : Shared} {a : Addr} {Q : Option Obj → Shared → Prop} (h : Q (s.heap.get? a) s) : wpAny M A (loadIfAlive a) Q E s := by
  intro Γ p _
  unfold loadIfAlive
  rw [Sem.wp_loadIfAlive]
  exact wpAny_pure (M := M) (A := A) h Γ p ‹_›
def ZipB (h : Heap) (z TI TO T : Addr) (b : Bool) : Prop := h.get? z = some { cls := Value.type "zip", data := Data.fields #[rawInt ↑T, Value.bool b, Value.bool false, Value.ref TI, Value.ref TO] }
set_option maxHeartbeats 1000000 in
theorem zip_not_free {prog : Program} {w : World} {A : Around} {E : Value → Shared → Prop} {s : Shared} {z TI TO T : Addr} {b : Bool} {o : Obj} {Q : Bool → Shared → Prop}
    (hz : ZipB s.heap z TI TO T b) (hT : s.heap.get? T = some o)
    (hQ : ∀ h', ZipB h' z TI TO T true → Heap.SameBut z s.heap h' → Q false { heap := h', gens := s.gens, drawn := s.drawn, toks := s.toks, os := s.os }) :
    wpAny (model prog w) A (Builtin.SmallTypes.ownedTupleIsFree (Value.ref z)) Q E s := by
  unfold Builtin.SmallTypes.ownedTupleIsFree
  refine wpAny_bind (wpAny_field hz rfl rfl ?_)
  show wpAny _ _ (Bind.bind (loadIfAlive _) _) _ _ _
  refine wpAny_bind (wpAny_alive ?_)
  have e : s.heap.get? (Int.toNat ↑T) = some o := hT
  rw [e]
  show wpAny _ _ (Bind.bind (field _ _) _) _ _ _
  refine wpAny_bind (wpAny_field hz rfl rfl ?_)
  cases b with
  | true =>
    exact wpAny_pure (hQ s.heap hz (Heap.SameBut.refl _ _))
  | false =>
    refine wpAny_bind (wpAny_setField_rec hz (by simp) fun h' g1 g2 => ?_)
    exact wpAny_pure (hQ h' g1 g2)
theorem IsList_at {h h' : Heap} {a : Addr} {xs : Array Value} (i : h.IsList a xs) (k : ∀ o, h.get? a = some o → h'.get? a = some o) : h'.IsList a xs := by
  obtain ⟨o, e, r⟩ := i
  exact ⟨o, k o e, r⟩
/-- one turn of zip's forIn, f1 true -/
theorem pair_items {h : Heap} {T : Addr} {x y : Value} (p : IsPair h T x y) : h.get? T = some { cls := Value.type "tuple", data := Data.seq #[x, y] } := p
set_option maxHeartbeats 2000000 in
theorem zip_next_more {prog : Program} {w : World} {A : Around} {E : Value → Shared → Prop} {s : Shared} {z TI TO i1 i2 l1 l2 T : Addr} {b : Bool} {o : Obj} {k1 k2 : Nat} {xs ys : Array Value} {x y : Value} {Q : Value → Shared → Prop}
    (D : ZipApart z TI TO i1 i2 l1 l2) (hz : ZipB s.heap z TI TO T b) (hT : s.heap.get? T = some o) (hTI : IsPair s.heap TI (Value.ref i1) (Value.ref i2))
    (h1 : s.heap.IsListIter i1 l1 k1) (h2 : s.heap.IsListIter i2 l2 k2) (hl1 : s.heap.IsList l1 xs) (hl2 : s.heap.IsList l2 ys) (hx : xs[k1]? = some x) (hy : ys[k2]? = some y)
    (hQ : ∀ h', ZipB h' z TI TO T true → h'.IsListIter i1 l1 (k1 + 1) → h'.IsListIter i2 l2 (k2 + 1) → IsPair h' s.heap.objs.size x y → h'.objs.size = s.heap.objs.size + 1 →
      (∀ c o, c ≠ z → c ≠ i1 → c ≠ i2 → s.heap.get? c = some o → h'.get? c = some o) → Q (Value.ref s.heap.objs.size) { heap := h', gens := s.gens, drawn := s.drawn, toks := s.toks, os := s.os }) :
    wpAny (model prog w) A (Builtin.«zip.__next__» { pos := [Value.ref z] }) (fun fin s' => ∃ v, fin = Fin.done (Flow.ret v) ∧ Q v s') E s := by
  unfold Builtin.«zip.__next__»
  refine wpAny_bind (wpAny_pure ?_)
  show wpAny _ _ (Bind.bind (field _ _) _) _ _ _
  refine wpAny_bind (wpAny_field hz rfl rfl ?_)
  show wpAny _ _ (Bind.bind (field _ _) _) _ _ _
  refine wpAny_bind (wpAny_field hz rfl rfl ?_)
  show wpAny _ _ (Bind.bind (seqItems? _) _) _ _ _
  refine wpAny_bind (wpAny_seqItems hTI rfl ?_)
  show wpAny _ _ (Bind.bind (Builtin.SmallTypes.ownedTupleIsFree _) _) _ _ _
  refine wpAny_bind (zip_not_free hz hT fun h3 g1 g2 => ?_)
  have k3 : ∀ c o, c ≠ z → s.heap.get? c = some o → h3.get? c = some o := fun c o n e => by rw [g2.2 c n]; exact e
  rw [if_neg Bool.false_ne_true]
  show wpAny _ _ (Bind.bind (forIn _ _ _) _) _ _ _
  refine wpAny_bind ?_
  rw [← Array.forIn_toList]
  show wpAny _ _ (forIn [Value.ref i1, Value.ref i2] _ _) _ _ _
  rw [List.forIn_cons]
  refine wpAny_bind (wpAny_bind (wpAny_holding ?_))
  show wpAny _ _ (Bind.bind (Builtin.SmallTypes.nextOf _) _) _ _ _
  refine wpAny_bind (wpAny_nextOf_list_item (h1.at fun o e => k3 _ _ D.i1z e) (by exact IsList_at hl1 fun o e => k3 _ _ D.l1z e) hx fun h4 g3 g4 => ?_)
  refine wpAny_pure (wpAny_pure ?_)
  show wpAny _ _ (forIn [Value.ref i2] _ _) _ _ _
  rw [List.forIn_cons]
  refine wpAny_bind (wpAny_bind (wpAny_holding ?_))
  show wpAny _ _ (Bind.bind (Builtin.SmallTypes.nextOf _) _) _ _ _
  have k4 : ∀ c o, c ≠ z → c ≠ i1 → s.heap.get? c = some o → h4.get? c = some o := fun c o n n1 e => by rw [g4.2 c n1]; exact k3 c o n e
  refine wpAny_bind (wpAny_nextOf_list_item (h2.at fun o e => k4 _ _ D.i2z D.i12.symm e) (IsList_at hl2 fun o e => k4 _ _ D.l2z D.l2i1 e) hy fun h5 g5 g6 => ?_)
  refine wpAny_pure (wpAny_pure ?_)
  show wpAny _ _ (forIn [] _ _) _ _ _
  rw [List.forIn_nil]
  refine wpAny_pure ?_
  show wpAny _ _ (Bind.bind (newTuple _) _) _ _ _
  have k5 : ∀ c o, c ≠ z → c ≠ i1 → c ≠ i2 → s.heap.get? c = some o → h5.get? c = some o := fun c o n n1 n2 e => by rw [g6.2 c n2]; exact k4 c o n n1 e
  have hsz : h5.objs.size = s.heap.objs.size := by rw [g6.1, g4.1, g2.1]
  refine wpAny_bind (wpAny_newTuple (items := [x, y]) ?_ (show 2 ≤ sizeLine by decide))
  refine wpAny_pure ⟨_, rfl, ?_⟩
  show Q (Value.ref h5.objs.size) _
  have push : ∀ {a : Addr} {o : Obj}, h5.get? a = some o → (h5.push { cls := Value.type "tuple", data := Data.seq #[x, y] }).get? a = some o := fun e => Heap.get?_push_of_some _ e
  have z5 : h5.get? z = h3.get? z := by rw [g6.2 z D.i2z.symm, g4.2 z D.i1z.symm]
  have := hQ (h5.push { cls := Value.type "tuple", data := Data.seq #[x, y] }) (push (z5.trans g1)) ((g3.at fun o e => by rw [g6.2 _ D.i12]; exact e).at fun o e => push e) (g5.at fun o e => push e) (by rw [← hsz]; exact Heap.get?_push_size _ rfl) (by rw [Heap.size_push, hsz]) (fun c o n n1 n2 e => push (k5 c o n n1 n2 e))
  rw [← hsz] at this
  exact this
theorem zip_len : typeLookup (Value.type "zip") (Str.ofString "__len__") = pure none := by
  rw [typeLookup_type, builtinLookup_eq_fast]
  rfl
theorem zip_lh : typeLookup (Value.type "zip") (Str.ofString "__length_hint__") = pure none := by
  rw [typeLookup_type, builtinLookup_eq_fast]
  rfl
theorem zip_hint {prog : Program} {w : World} {A : Around} {E : Value → Shared → Prop} {s : Shared} {z : Addr} {Q : Bool → Shared → Prop}
    (hT : s.TypeIs (Value.ref z) "zip") (h : Q true s) : wpAny (model prog w) A (Builtin.List.listLengthHint (Value.ref z)) Q E s := by
  unfold Builtin.List.listLengthHint
  refine wpAny_bind (wpAny_specialOf hT zip_len ?_)
  show wpAny _ _ (Bind.bind (specialOf _ _) _) _ _ _
  refine wpAny_bind (wpAny_specialOf hT zip_lh ?_)
  exact wpAny_pure h
set_option maxHeartbeats 2000000 in
theorem zip_next_more_end {prog : Program} {w : World} {A : Around} {E : Value → Shared → Prop} {s : Shared} {z TI TO i1 i2 l1 l2 T : Addr} {b : Bool} {o : Obj} {k1 k2 : Nat} {xs ys : Array Value} {Q : PySem.Fin → Shared → Prop}
    (hh : A.handled = none) (D : ZipApart z TI TO i1 i2 l1 l2) (hz : ZipB s.heap z TI TO T b) (hT : s.heap.get? T = some o) (hTI : IsPair s.heap TI (Value.ref i1) (Value.ref i2))
    (h1 : s.heap.IsListIter i1 l1 k1) (h2 : s.heap.IsListIter i2 l2 k2) (hl1 : s.heap.IsList l1 xs) (hl2 : s.heap.IsList l2 ys) (hend : xs[k1]? = none ∨ ys[k2]? = none)
    (hQ : ∀ h' (e : Addr), (∀ c o, c ≠ z → c ≠ i1 → c ≠ i2 → s.heap.get? c = some o → h'.get? c = some o) → (∃ o, h'.get? e = some o ∧ o.cls = Value.type "StopIteration") →
      E (Value.ref e) { heap := h', gens := s.gens, drawn := s.drawn, toks := s.toks, os := s.os }) :
    wpAny (model prog w) A (Builtin.«zip.__next__» { pos := [Value.ref z] }) Q E s := by
  unfold Builtin.«zip.__next__»
  refine wpAny_bind (wpAny_pure ?_)
  show wpAny _ _ (Bind.bind (field _ _) _) _ _ _
  refine wpAny_bind (wpAny_field hz rfl rfl ?_)
  show wpAny _ _ (Bind.bind (field _ _) _) _ _ _
  refine wpAny_bind (wpAny_field hz rfl rfl ?_)
  show wpAny _ _ (Bind.bind (seqItems? _) _) _ _ _
  refine wpAny_bind (wpAny_seqItems hTI rfl ?_)
  show wpAny _ _ (Bind.bind (Builtin.SmallTypes.ownedTupleIsFree _) _) _ _ _
  refine wpAny_bind (zip_not_free hz hT fun h3 g1 g2 => ?_)
  have k3 : ∀ c o, c ≠ z → s.heap.get? c = some o → h3.get? c = some o := fun c o n e => by rw [g2.2 c n]; exact e
  rw [if_neg Bool.false_ne_true]
  show wpAny _ _ (Bind.bind (forIn _ _ _) _) _ _ _
  refine wpAny_bind ?_
  rw [← Array.forIn_toList]
  show wpAny _ _ (forIn [Value.ref i1, Value.ref i2] _ _) _ _ _
  rw [List.forIn_cons]
  refine wpAny_bind (wpAny_bind (wpAny_holding ?_))
  show wpAny _ _ (Bind.bind (Builtin.SmallTypes.nextOf _) _) _ _ _
  cases hx : xs[k1]? with
  | none =>
    exact wpAny_bind (wpAny_nextOf_list_end hh (h1.at fun o e => k3 _ _ D.i1z e) (IsList_at hl1 fun o e => k3 _ _ D.l1z e) hx fun h4 e x he =>
      hQ h4 e (fun c o n n1 n2 g => x _ _ n1 (k3 c o n g)) he)
  | some x =>
    have hy : ys[k2]? = none := by
      rcases hend with q | q
      · rw [q] at hx; cases hx
      · exact q
    refine wpAny_bind (wpAny_nextOf_list_item (h1.at fun o e => k3 _ _ D.i1z e) (by exact IsList_at hl1 fun o e => k3 _ _ D.l1z e) hx fun h4 g3 g4 => ?_)
    refine wpAny_pure (wpAny_pure ?_)
    show wpAny _ _ (forIn [Value.ref i2] _ _) _ _ _
    rw [List.forIn_cons]
    refine wpAny_bind (wpAny_bind (wpAny_holding ?_))
    show wpAny _ _ (Bind.bind (Builtin.SmallTypes.nextOf _) _) _ _ _
    have k4 : ∀ c o, c ≠ z → c ≠ i1 → s.heap.get? c = some o → h4.get? c = some o := fun c o n n1 e => by rw [g4.2 c n1]; exact k3 c o n e
    exact wpAny_bind (wpAny_nextOf_list_end hh (h2.at fun o e => k4 _ _ D.i2z D.i12.symm e) (IsList_at hl2 fun o e => k4 _ _ D.l2z D.l2i1 e) hy fun h5 e x he =>
      hQ h5 e (fun c o n n1 n2 g => x _ _ n2 (k4 c o n n1 g)) he)
end VI
end
section
namespace VI
open PySem PySem.Spec PyProof.Rows L2
theorem pyNext_zip_more {prog : Program} {w : World} {A : Around} {E : Value → Shared → Prop} {s : Shared} {z TI TO i1 i2 l1 l2 T : Addr} {b : Bool} {o : Obj} {k1 k2 : Nat} {xs ys : Array Value} {x y : Value} {Q : Option Value → Shared → Prop}
    (D : ZipApart z TI TO i1 i2 l1 l2) (hz : ZipB s.heap z TI TO T b) (hT : s.heap.get? T = some o) (hTI : IsPair s.heap TI (Value.ref i1) (Value.ref i2))
    (h1 : s.heap.IsListIter i1 l1 k1) (h2 : s.heap.IsListIter i2 l2 k2) (hl1 : s.heap.IsList l1 xs) (hl2 : s.heap.IsList l2 ys) (hx : xs[k1]? = some x) (hy : ys[k2]? = some y)
    (hQ : ∀ h', ZipB h' z TI TO T true → h'.IsListIter i1 l1 (k1 + 1) → h'.IsListIter i2 l2 (k2 + 1) → IsPair h' s.heap.objs.size x y → h'.objs.size = s.heap.objs.size + 1 →
      (∀ c o, c ≠ z → c ≠ i1 → c ≠ i2 → s.heap.get? c = some o → h'.get? c = some o) → Q (some (Value.ref s.heap.objs.size)) { heap := h', gens := s.gens, drawn := s.drawn, toks := s.toks, os := s.os }) :
    wpAny (model prog w) A (pyNext (Value.ref z)) Q E s := by
  have hTy : s.TypeIs (Value.ref z) "zip" := ⟨_, hz, rfl⟩
  unfold pyNext
  exact wpAny_bind (wpAny_attempt (wpAny_callSpecial?_slot hTy F.slot_zip_next (wpAny_call_entry F.slot_zip_next hTy F.entry_zip_next
    (zip_next_more D hz hT hTI h1 h2 hl1 hl2 hx hy fun h' a1 a2 a3 a4 a5 a6 => wpAny_pure (hQ h' a1 a2 a3 a4 a5 a6)) (F.args_zip_next_1 (Value.ref z)))))
theorem pyNext_zip_more_end {prog : Program} {w : World} {A : Around} {E : Value → Shared → Prop} {s : Shared} {z TI TO i1 i2 l1 l2 T : Addr} {b : Bool} {o : Obj} {k1 k2 : Nat} {xs ys : Array Value} {Q : Option Value → Shared → Prop}
    (hh : A.handled = none) (D : ZipApart z TI TO i1 i2 l1 l2) (hz : ZipB s.heap z TI TO T b) (hT : s.heap.get? T = some o) (hTI : IsPair s.heap TI (Value.ref i1) (Value.ref i2))
    (h1 : s.heap.IsListIter i1 l1 k1) (h2 : s.heap.IsListIter i2 l2 k2) (hl1 : s.heap.IsList l1 xs) (hl2 : s.heap.IsList l2 ys) (hend : xs[k1]? = none ∨ ys[k2]? = none)
    (hQ : ∀ h', (∀ c o, c ≠ z → c ≠ i1 → c ≠ i2 → s.heap.get? c = some o → h'.get? c = some o) → Q none { heap := h', gens := s.gens, drawn := s.drawn, toks := s.toks, os := s.os }) :
    wpAny (model prog w) A (pyNext (Value.ref z)) Q E s := by
  have hTy : s.TypeIs (Value.ref z) "zip" := ⟨_, hz, rfl⟩
  unfold pyNext
  exact wpAny_bind (wpAny_attempt (wpAny_callSpecial?_slot hTy F.slot_zip_next (wpAny_call_entry F.slot_zip_next hTy F.entry_zip_next
    (zip_next_more_end hh D hz hT hTI h1 h2 hl1 hl2 hend fun h' e hk ⟨o, ho, hc⟩ =>
      wpAny_bind (wpAny_isInstance ⟨o, ho, hc⟩ isSubtype_stop (wpAny_pure (hQ h' hk)))) (F.args_zip_next_1 (Value.ref z)))))
/-- where zip's objects lie -/
structure ZAt (N S z TI TO i1 i2 l1 l2 : Addr) : Prop where
  ap : ZipApart z TI TO i1 i2 l1 l2
  Sz : S ≠ z
  STI : S ≠ TI
  STO : S ≠ TO
  Si1 : S ≠ i1
  Si2 : S ≠ i2
  Sl1 : S ≠ l1
  Sl2 : S ≠ l2
  lS : S < N
  lz : z < N
  lTI : TI < N
  lTO : TO < N
  l1N : i1 < N
  l2N : i2 < N
structure ZG (h : Heap) (N S z TI TO i1 i2 l1 l2 : Addr) (xs ys : Array Value) (k : Nat) (as : List Addr) : Prop where
  st : (IsZip h z TI TO Value.none ∧ ∃ a b, IsPair h TO a b) ∨ (∃ T b o, ZipB h z TI TO T b ∧ h.get? T = some o ∧ N ≤ T)
  pr : IsPair h TI (Value.ref i1) (Value.ref i2)
  h1 : h.IsListIter i1 l1 k
  h2 : h.IsListIter i2 l2 k
  hl1 : h.IsList l1 xs
  hl2 : h.IsList l2 ys
  hN : N ≤ h.objs.size
  len : as.length = k
  above : ∀ a ∈ as, N ≤ a
  below : ∀ a ∈ as, a < h.objs.size
  rise : as.Pairwise (fun x y => x < y)
  pairs : ∀ (j : Nat) (a : Addr), as[j]? = some a → ∃ x y, xs[j]? = some x ∧ ys[j]? = some y ∧ IsPair h a x y
theorem zip_item {prog : Program} {w : World} {A : Around} {E : Value → Shared → Prop} {s : Shared} {N S z TI TO i1 i2 l1 l2 : Addr} {xs ys : Array Value} {k : Nat} {as : List Addr} {Q : Option Value → Shared → Prop}
    (Z : ZAt N S z TI TO i1 i2 l1 l2) (G : ZG s.heap N S z TI TO i1 i2 l1 l2 xs ys k as) (hx : k < xs.size) (hy : k < ys.size)
    (hQ : ∀ h', ZG h' N S z TI TO i1 i2 l1 l2 xs ys (k + 1) (as ++ [s.heap.objs.size]) → (∀ c o, c ≠ z → c ≠ TO → c ≠ i1 → c ≠ i2 → s.heap.get? c = some o → h'.get? c = some o) →
      Q (some (Value.ref s.heap.objs.size)) { heap := h', gens := s.gens, drawn := s.drawn, toks := s.toks, os := s.os }) :
    wpAny (model prog w) A (pyNext (Value.ref z)) Q E s := by
  have D := Z.ap
  have hx' : xs[k]? = some xs[k] := Array.getElem?_eq_getElem hx
  have hy' : ys[k]? = some ys[k] := Array.getElem?_eq_getElem hy
  have fin : ∀ h', ((IsZip h' z TI TO Value.none ∧ ∃ a b, IsPair h' TO a b) ∨ (∃ T b o, ZipB h' z TI TO T b ∧ h'.get? T = some o ∧ N ≤ T)) → h'.IsListIter i1 l1 (k + 1) → h'.IsListIter i2 l2 (k + 1) →
      IsPair h' s.heap.objs.size xs[k] ys[k] → h'.objs.size = s.heap.objs.size + 1 → (∀ c o, c ≠ z → c ≠ TO → c ≠ i1 → c ≠ i2 → s.heap.get? c = some o → h'.get? c = some o) →
      ZG h' N S z TI TO i1 i2 l1 l2 xs ys (k + 1) (as ++ [s.heap.objs.size]) := fun h' a1 a2 a3 a4 a5 a6 => by
    have hN := G.hN
    have b1 := Z.lz
    have b2 := Z.lTO
    have b3 := Z.l1N
    have b4 := Z.l2N
    refine ⟨a1, a6 _ _ D.TIz D.TITO D.TIi1 D.TIi2 G.pr, a2, a3, IsList_at G.hl1 fun o e => a6 _ _ D.l1z D.l1TO D.l1i1 D.l1i2 e, IsList_at G.hl2 fun o e => a6 _ _ D.l2z D.l2TO D.l2i1 D.l2i2 e, by rw [a5]; exact Nat.le_succ_of_le hN, by rw [List.length_append, G.len]; rfl, fun a ha => ?_, fun a ha => ?_, ?_, fun j a ha => ?_⟩
    · rcases List.mem_append.mp ha with q | q
      · exact G.above a q
      · rw [List.mem_singleton.mp q]; exact hN
    · rw [a5]
      rcases List.mem_append.mp ha with q | q
      · exact Nat.lt_succ_of_lt (G.below a q)
      · rw [List.mem_singleton.mp q]; exact Nat.lt_succ_self _
    · refine List.pairwise_append.mpr ⟨G.rise, List.pairwise_singleton _ _, fun a ha b hb => ?_⟩
      rw [List.mem_singleton.mp hb]
      exact G.below a ha
    · by_cases hj : j < as.length
      · rw [List.getElem?_append_left hj] at ha
        obtain ⟨x, y, e1, e2, e3⟩ := G.pairs j a ha
        have hb := G.above a (List.mem_of_getElem? ha)
        exact ⟨x, y, e1, e2, a6 _ _ (Nat.ne_of_gt (Nat.lt_of_lt_of_le b1 hb)) (Nat.ne_of_gt (Nat.lt_of_lt_of_le b2 hb)) (Nat.ne_of_gt (Nat.lt_of_lt_of_le b3 hb)) (Nat.ne_of_gt (Nat.lt_of_lt_of_le b4 hb)) e3⟩
      · rw [List.getElem?_append_right (by omega)] at ha
        have hj2 : j - as.length = 0 := by
          rcases Nat.eq_zero_or_pos (j - as.length) with q | q
          · exact q
          · rw [List.getElem?_eq_none (by simp; omega)] at ha; cases ha
        rw [hj2] at ha
        cases ha
        have : j = k := by have := G.len; omega
        subst this
        exact ⟨_, _, hx', hy', a4⟩
  rcases G.st with ⟨hz, a, b, hTO⟩ | ⟨T, b, o, hz, hT, hTN⟩
  · refine wpAny_pyNext_zip_item D hz G.pr hTO G.h1 G.h2 G.hl1 G.hl2 hx' hy' fun h' a1 a2 a3 a4 a5 a6 a7 => ?_
    exact hQ h' (fin h' (.inr ⟨_, _, _, a1, a5, G.hN⟩) a3 a4 a5 a6 fun c o e1 e2 e3 e4 g => a7 c o e1 e2 e3 e4 g) fun c o e1 e2 e3 e4 g => a7 c o e1 e2 e3 e4 g
  · refine pyNext_zip_more D hz hT G.pr G.h1 G.h2 G.hl1 G.hl2 hx' hy' fun h' a1 a3 a4 a5 a6 a7 => ?_
    have b1 := Z.lz
    have b3 := Z.l1N
    have b4 := Z.l2N
    refine hQ h' (fin h' (.inr ⟨T, _, o, a1, a7 T o (Nat.ne_of_gt (Nat.lt_of_lt_of_le b1 hTN)) (Nat.ne_of_gt (Nat.lt_of_lt_of_le b3 hTN)) (Nat.ne_of_gt (Nat.lt_of_lt_of_le b4 hTN)) hT, hTN⟩) a3 a4 a5 a6 fun c o e1 e2 e3 e4 g => a7 c o e1 e3 e4 g) fun c o e1 e2 e3 e4 g => a7 c o e1 e3 e4 g
theorem zip_done {prog : Program} {w : World} {A : Around} {E : Value → Shared → Prop} {s : Shared} {N S z TI TO i1 i2 l1 l2 : Addr} {xs ys : Array Value} {k : Nat} {as : List Addr} {Q : Option Value → Shared → Prop}
    (hh : A.handled = none) (Z : ZAt N S z TI TO i1 i2 l1 l2) (G : ZG s.heap N S z TI TO i1 i2 l1 l2 xs ys k as) (hk : xs.size ≤ k ∨ ys.size ≤ k)
    (hQ : ∀ h', (∀ c o, c ≠ z → c ≠ TO → c ≠ i1 → c ≠ i2 → s.heap.get? c = some o → h'.get? c = some o) → Q none { heap := h', gens := s.gens, drawn := s.drawn, toks := s.toks, os := s.os }) :
    wpAny (model prog w) A (pyNext (Value.ref z)) Q E s := by
  have hend : xs[k]? = none ∨ ys[k]? = none := hk.imp (fun h => Array.getElem?_eq_none h) (fun h => Array.getElem?_eq_none h)
  rcases G.st with ⟨hz, a, b, hTO⟩ | ⟨T, b, o, hz, hT, hTN⟩
  · exact wpAny_pyNext_zip_end hh Z.ap hz G.pr hTO G.h1 G.h2 G.hl1 G.hl2 hend fun h' a7 => hQ h' a7
  · exact pyNext_zip_more_end hh Z.ap hz hT G.pr G.h1 G.h2 G.hl1 G.hl2 hend fun h' a7 => hQ h' fun c o e1 e2 e3 e4 g => a7 c o e1 e3 e4 g
end VI
end
section
namespace VI
open PySem PySem.Spec PyProof.Rows L2
def ZPairs (h : Heap) (N : Addr) (xs ys : Array Value) (as : List Addr) : Prop := (∀ a ∈ as, N ≤ a) ∧ as.Pairwise (fun x y => x < y) ∧ ∀ (j : Nat) (a : Addr), as[j]? = some a → ∃ x y, xs[j]? = some x ∧ ys[j]? = some y ∧ IsPair h a x y
theorem ZG.upd {h h' : Heap} {N S z TI TO i1 i2 l1 l2 : Addr} {xs ys : Array Value} {k : Nat} {as : List Addr} (Z : ZAt N S z TI TO i1 i2 l1 l2) (G : ZG h N S z TI TO i1 i2 l1 l2 xs ys k as)
    (up : ∀ b o, b ≠ S → h.get? b = some o → h'.get? b = some o) (hs : h.objs.size ≤ h'.objs.size) : ZG h' N S z TI TO i1 i2 l1 l2 xs ys k as := by
  refine ⟨?_, up _ _ Z.STI.symm G.pr, G.h1.at fun o e => up _ _ Z.Si1.symm e, G.h2.at fun o e => up _ _ Z.Si2.symm e, IsList_at G.hl1 fun o e => up _ _ Z.Sl1.symm e, IsList_at G.hl2 fun o e => up _ _ Z.Sl2.symm e, Nat.le_trans G.hN hs, G.len, G.above, fun a ha => Nat.lt_of_lt_of_le (G.below a ha) hs, G.rise, fun j a ha => ?_⟩
  · rcases G.st with ⟨hz, a, b, hTO⟩ | ⟨T, b, o, hz, hT, hTN⟩
    · exact .inl ⟨up _ _ Z.Sz.symm hz, a, b, up _ _ Z.STO.symm hTO⟩
    · exact .inr ⟨T, b, o, up _ _ Z.Sz.symm hz, up _ _ (Nat.ne_of_gt (Nat.lt_of_lt_of_le Z.lS hTN)) hT, hTN⟩
  · obtain ⟨x, y, e1, e2, e3⟩ := G.pairs j a ha
    exact ⟨x, y, e1, e2, up _ _ (Nat.ne_of_gt (Nat.lt_of_lt_of_le Z.lS (G.above a (List.mem_of_getElem? ha)))) e3⟩
theorem zip_loop {prog : Program} {w : World} {A : Around} {s : Shared} {R : Result → Shared → Prop} {N S z TI TO i1 i2 l1 l2 : Addr} {xs ys : Array Value}
    (hh : A.handled = none) (Z : ZAt N S z TI TO i1 i2 l1 l2) (hn : min xs.size ys.size ≤ sizeLine) (res : Value) {h₁ : Heap}
    (hR : ∀ (h' : Heap) (tk : Nat) (acc : Array Value) (c : Nat) (as : List Addr), (∀ b o, N ≤ h₁.objs.size → b ≠ S → b ≠ z → b ≠ TO → b ≠ i1 → b ≠ i2 → h₁.get? b = some o → h'.get? b = some o) →
      h'.get? S = some { cls := Value.type "list", data := Data.seq acc c } → as.length = min xs.size ys.size → ZPairs h' N xs ys as → acc.toList = List.map Value.ref as →
      R (Except.ok (Flow.ret res)) { heap := h', gens := s.gens, drawn := s.drawn, toks := tk, os := s.os }) :
    ∀ (k i : Nat) (h : Heap) (tk c : Nat) (acc : Array Value) (as : List Addr), min xs.size ys.size - i = k → i ≤ min xs.size ys.size → ZG h N S z TI TO i1 i2 l1 l2 xs ys i as →
      (∀ b o, b ≠ S → b ≠ z → b ≠ TO → b ≠ i1 → b ≠ i2 → h₁.get? b = some o → h.get? b = some o) → h.get? S = some { cls := Value.type "list", data := Data.seq acc c } →
      acc.toList = List.map Value.ref as → codeAny (model prog w) A (Code.builtin "list.extend.loop" { pos := [Value.ref S, Value.ref z, res] }) R { heap := h, gens := s.gens, drawn := s.drawn, toks := tk, os := s.os } := by
  intro k
  induction k with
  | zero =>
    intro i h tk c acc as hk hi G hkeep hS hacc
    have hi2 : i = min xs.size ys.size := by omega
    refine codeAny_builtin F.entry_extend_loop ?_
    rw [Around.under_plainId F.plain_extend_loop]
    show wpAny _ _ (Bind.bind (pyNext _) _) _ _ _
    refine wpAny_bind (zip_done hh Z G (by omega) fun h' he => ?_)
    refine wpAny_pure (hR h' tk acc c as (fun b o _ g1 g2 g3 g4 g5 e => he b o g2 g3 g4 g5 (hkeep b o g1 g2 g3 g4 g5 e)) (he _ _ Z.Sz Z.STO Z.Si1 Z.Si2 hS) (by rw [G.len]; exact hi2) ⟨G.above, G.rise, fun j a ha => ?_⟩ hacc)
    obtain ⟨x, y, e1, e2, e3⟩ := G.pairs j a ha
    have hb := G.above a (List.mem_of_getElem? ha)
    exact ⟨x, y, e1, e2, he _ _ (Nat.ne_of_gt (Nat.lt_of_lt_of_le Z.lz hb)) (Nat.ne_of_gt (Nat.lt_of_lt_of_le Z.lTO hb)) (Nat.ne_of_gt (Nat.lt_of_lt_of_le Z.l1N hb)) (Nat.ne_of_gt (Nat.lt_of_lt_of_le Z.l2N hb)) e3⟩
  | succ k ih =>
    intro i h tk c acc as hk hi G hkeep hS hacc
    refine codeAny_builtin F.entry_extend_loop ?_
    rw [Around.under_plainId F.plain_extend_loop]
    show wpAny _ _ (Bind.bind (pyNext _) _) _ _ _
    refine wpAny_bind (zip_item Z G (by omega) (by omega) fun h' G' hkp => ?_)
    have hS' := hkp _ _ Z.Sz Z.STO Z.Si1 Z.Si2 hS
    have hsz : acc.size = i := by rw [← Array.length_toList, hacc, List.length_map, G.len]
    show wpAny _ _ (Bind.bind (updateSeq _ _) _) _ _ _
    refine wpAny_bind (wpAny_updateSeq hS' rfl ?_ (by omega) (by simp only [Array.size_push]; omega))
    refine wpAny_pure ⟨plainId_quiet F.plain_extend_loop _, ?_⟩
    have up : ∀ b o, b ≠ S → h'.get? b = some o → (h'.update S (Obj.mapSeq fun x => x.push (Value.ref h.objs.size))).get? b = some o := fun b o hb e => (Heap.get?_update_other h' _ (Ne.symm hb)).trans e
    refine ih (i + 1) _ tk _ (acc.push (Value.ref h.objs.size)) (as ++ [h.objs.size]) (by omega) (by omega) (G'.upd Z up (by rw [Heap.size_update]; exact Nat.le_refl _)) (fun b o g1 g2 g3 g4 g5 e => up b o g1 (hkp b o g2 g3 g4 g5 (hkeep b o g1 g2 g3 g4 g5 e)))
      (Heap.get?_update_self _ hS' rfl) ?_
    rw [Array.toList_push, hacc, List.map_append]
    rfl
end VI
end
section
namespace VI
open PySem PySem.Spec PyProof.Rows L2
set_option maxHeartbeats 1000000 in
theorem zip_extend {prog : Program} {w : World} {A : Around} {s : Shared} {R : Result → Shared → Prop} {N S z TI TO i1 i2 l1 l2 : Addr} {xs ys : Array Value}
    (hh : A.handled = none) (Z : ZAt N S z TI TO i1 i2 l1 l2) (hn : min xs.size ys.size ≤ sizeLine) (res : Value) (c₀ : Nat)
    (G : ZG s.heap N S z TI TO i1 i2 l1 l2 xs ys 0 []) {f0 : Value} (hz : IsZip s.heap z TI TO f0) (hS : s.heap.get? S = some { cls := Value.type "list", data := Data.seq #[] c₀ })
    (hR : ∀ (h' : Heap) (tk : Nat) (acc : Array Value) (c : Nat) (as : List Addr), (∀ b o, b ≠ S → b ≠ z → b ≠ TO → b ≠ i1 → b ≠ i2 → s.heap.get? b = some o → h'.get? b = some o) →
      h'.get? S = some { cls := Value.type "list", data := Data.seq acc c } → as.length = min xs.size ys.size → ZPairs h' N xs ys as → acc.toList = List.map Value.ref as →
      R (Except.ok (Flow.ret res)) { heap := h', gens := s.gens, drawn := s.drawn, toks := tk, os := s.os }) :
    wpAny (model prog w) A.in1 (Builtin.List.listExtendWith (Value.ref S) (Value.ref z) res)
      (fun fin s' => match fin with | Fin.done f => R (Except.ok f) s' | Fin.again c' => c'.quiet = true ∧ codeAny (model prog w) A c' R s') (fun e s' => R (Except.error e) s') s := by
  have hT : s.TypeIs (Value.ref z) "zip" := ⟨_, hz, rfl⟩
  unfold Builtin.List.listExtendWith
  refine wpAny_bind (wpAny_typeOf hT ?_)
  have h1 : Builtin.List.listSameRef (Value.ref S) (Value.ref z) = false := by
    have := Z.Sz
    simp [Builtin.List.listSameRef, this]
  rw [h1]
  rw [if_neg (by decide)]
  refine wpAny_bind (wpAny_pyIter_zip hz ?_)
  refine wpAny_bind (wpAny_holding (zip_hint hT ?_))
  rw [if_pos (by rfl)]
  refine wpAny_bind (wpAny_rule ?_)
  show wpAny _ _ (Bind.bind (Bind.bind (updateSeq _ _) _) _) _ _ _
  refine wpAny_bind (wpAny_bind (wpAny_updateSeq hS rfl ?_))
  have hS2 := Heap.get?_update_self (Obj.mapSeq fun x => x.push Value.none) hS rfl
  refine wpAny_updateSeq hS2 rfl ?_
  have hS3 := Heap.get?_update_self (Obj.mapSeq fun x => x.pop) hS2 rfl
  refine wpAny_pure ⟨plainId_quiet F.plain_extend_loop _, ?_⟩
  have up : ∀ b o, b ≠ S → s.heap.get? b = some o → ((s.heap.update S (Obj.mapSeq fun x => x.push Value.none)).update S (Obj.mapSeq fun x => x.pop)).get? b = some o := fun b o hb e =>
    (Heap.get?_update_other _ _ (Ne.symm hb)).trans ((Heap.get?_update_other s.heap _ (Ne.symm hb)).trans e)
  exact zip_loop (s := s) hh Z hn res (h₁ := s.heap) (fun h' tk acc c as k1 k2 k3 k4 k5 => hR h' tk acc c as (fun b o => k1 b o G.hN) k2 k3 k4 k5) (min xs.size ys.size) 0 _ _ _ #[] [] (by omega) (by omega)
    (G.upd Z up (by rw [Heap.size_update, Heap.size_update]; exact Nat.le_refl _)) (fun b o g1 g2 g3 g4 g5 e => up b o g1 e) hS3 rfl
set_option maxHeartbeats 1000000 in
theorem zip_init {prog : Program} {w : World} {A : Around} {s : Shared} {R : Result → Shared → Prop} {N S z TI TO i1 i2 l1 l2 : Addr} {xs ys : Array Value}
    (hh : A.handled = none) (Z : ZAt N S z TI TO i1 i2 l1 l2) (hn : min xs.size ys.size ≤ sizeLine)
    (G : ZG s.heap N S z TI TO i1 i2 l1 l2 xs ys 0 []) {f0 : Value} (hz : IsZip s.heap z TI TO f0) (hS : s.heap.get? S = some { cls := Value.type "list", data := Data.seq #[] })
    (hR : ∀ (h' : Heap) (tk : Nat) (acc : Array Value) (c : Nat) (as : List Addr), (∀ b o, b ≠ S → b ≠ z → b ≠ TO → b ≠ i1 → b ≠ i2 → s.heap.get? b = some o → h'.get? b = some o) →
      h'.get? S = some { cls := Value.type "list", data := Data.seq acc c } → as.length = min xs.size ys.size → ZPairs h' N xs ys as → acc.toList = List.map Value.ref as →
      R (Except.ok (Flow.ret Value.none)) { heap := h', gens := s.gens, drawn := s.drawn, toks := tk, os := s.os }) :
    wpAny (model prog w) A.in1 (Builtin.«list.__init__» { pos := [Value.ref S, Value.ref z] })
      (fun fin s' => match fin with | Fin.done f => R (Except.ok f) s' | Fin.again c' => c'.quiet = true ∧ codeAny (model prog w) A c' R s') (fun e s' => R (Except.error e) s') s := by
  unfold Builtin.«list.__init__»
  show wpAny _ _ (Bind.bind (Bind.bind (seqItems? _) _) _) _ _ _
  refine wpAny_bind (wpAny_bind (wpAny_seqItems hS rfl (wpAny_pure ?_)))
  show wpAny _ _ (Bind.bind (updateSeq _ _) _) _ _ _
  have hS2 := Heap.get?_update_self (Obj.mapSeq fun x => #[]) hS rfl
  have up : ∀ b o, b ≠ S → s.heap.get? b = some o → (s.heap.update S (Obj.mapSeq fun x => #[])).get? b = some o := fun b o hb e => (Heap.get?_update_other s.heap _ (Ne.symm hb)).trans e
  refine wpAny_bind (wpAny_updateSeq hS rfl (wpAny_bind (wpAny_letGo ?_)) (by simp) (by simp))
  exact zip_extend (s := { heap := s.heap.update S (Obj.mapSeq fun x => #[]), gens := s.gens, drawn := s.drawn, toks := s.toks, os := s.os }) hh Z hn Value.none _
    (G.upd Z up (by show _ ≤ (s.heap.update S _).objs.size; rw [Heap.size_update]; exact Nat.le_refl _)) (up _ _ Z.Sz.symm hz) hS2
    fun h' tk acc c as k1 k2 k3 k4 k5 => hR h' tk acc c as (fun b o g1 g2 g3 g4 g5 e => k1 b o g1 g2 g3 g4 g5 (up b o g1 e)) k2 k3 k4 k5
set_option maxHeartbeats 1000000 in
/-- list(zip(xs, ys)), from zip's new object -/
theorem call_list_zip {prog : Program} {w : World} {A : Around} {E : Value → Shared → Prop} {s : Shared} {z TI TO i1 i2 l1 l2 : Addr} {xs ys : Array Value} {Q : Value → Shared → Prop}
    (hh : A.handled = none) (D : ZipApart z TI TO i1 i2 l1 l2) (hn : min xs.size ys.size ≤ sizeLine)
    (hz : IsZip s.heap z TI TO Value.none) {a b : Value} (hTO : IsPair s.heap TO a b) (hTI : IsPair s.heap TI (Value.ref i1) (Value.ref i2))
    (h1 : s.heap.IsListIter i1 l1 0) (h2 : s.heap.IsListIter i2 l2 0) (hl1 : s.heap.IsList l1 xs) (hl2 : s.heap.IsList l2 ys)
    (hQ : ∀ (h' : Heap) (tk : Nat) (acc : Array Value) (c : Nat) (as : List Addr), (∀ b o, b ≠ z → b ≠ TO → b ≠ i1 → b ≠ i2 → s.heap.get? b = some o → h'.get? b = some o) →
      h'.get? s.heap.objs.size = some { cls := Value.type "list", data := Data.seq acc c } → as.length = min xs.size ys.size → ZPairs h' (s.heap.objs.size + 1) xs ys as → acc.toList = List.map Value.ref as →
      Q (Value.ref s.heap.objs.size) { heap := h', gens := s.gens, drawn := s.drawn, toks := tk, os := s.os }) :
    wpAny (model prog w) A (call (Value.type "list") [Value.ref z]) Q E s := by
  refine callType_codes F.called_list (F.typeCall_list_1 (Value.ref z)) F.entry_list_init (code_list_new (Q₁ := fun r s1 => r = Value.ref s.heap.objs.size ∧ s1 = { heap := s.heap.push { cls := Value.type "list", data := Data.seq #[] }, gens := s.gens, drawn := s.drawn, toks := s.toks, os := s.os }) (Value.ref z) ⟨rfl, rfl⟩) fun obj s₁ h₁ => ?_
  obtain ⟨rfl, rfl⟩ := h₁
  have hS := Heap.get?_push_size s.heap (o := { cls := Value.type "list", data := Data.seq #[] }) rfl
  have pu : ∀ b o, s.heap.get? b = some o → (s.heap.push { cls := Value.type "list", data := Data.seq #[] }).get? b = some o := fun b o e => Heap.get?_push_of_some _ e
  have lt : ∀ {b : Addr} {o : Obj}, s.heap.get? b = some o → b < s.heap.objs.size := fun e => Heap.lt_size e
  have lz := lt hz
  have lTO := lt hTO
  have lTI := lt hTI
  obtain ⟨o1, e1, r1⟩ := h1
  obtain ⟨o2, e2, r2⟩ := h2
  have li1 := lt e1
  have li2 := lt e2
  obtain ⟨p1, f1, q1⟩ := hl1
  obtain ⟨p2, f2, q2⟩ := hl2
  have ll1 := lt f1
  have ll2 := lt f2
  have Z : ZAt (s.heap.objs.size + 1) s.heap.objs.size z TI TO i1 i2 l1 l2 := ⟨D, Nat.ne_of_gt lz, Nat.ne_of_gt lTI, Nat.ne_of_gt lTO, Nat.ne_of_gt li1, Nat.ne_of_gt li2, Nat.ne_of_gt ll1, Nat.ne_of_gt ll2, Nat.lt_succ_self _,
    Nat.lt_succ_of_lt lz, Nat.lt_succ_of_lt lTI, Nat.lt_succ_of_lt lTO, Nat.lt_succ_of_lt li1, Nat.lt_succ_of_lt li2⟩
  have G : ZG (s.heap.push { cls := Value.type "list", data := Data.seq #[] }) (s.heap.objs.size + 1) s.heap.objs.size z TI TO i1 i2 l1 l2 xs ys 0 [] :=
    ⟨.inl ⟨pu _ _ hz, a, b, pu _ _ hTO⟩, pu _ _ hTI, ⟨o1, pu _ _ e1, r1⟩, ⟨o2, pu _ _ e2, r2⟩, ⟨p1, pu _ _ f1, q1⟩, ⟨p2, pu _ _ f2, q2⟩, by rw [Heap.size_push]; exact Nat.le_refl _, rfl, (fun a ha => nomatch ha), (fun a ha => nomatch ha), List.Pairwise.nil, (fun j a ha => by simp at ha)⟩
  refine ⟨⟨_, hS, rfl⟩, F.args_list_init_2 _ _, zip_init hh Z hn G (pu _ _ hz) hS fun h' tk acc c as k1 k2 k3 k4 k5 => ⟨rfl, ?_⟩⟩
  exact hQ h' tk acc c as (fun b o g2 g3 g4 g5 e => k1 b o (Nat.ne_of_lt (Heap.lt_size e)) g2 g3 g4 g5 (pu b o e)) k2 k3 k4 k5
end VI
end
section
namespace VI
open PySem PySem.Spec PyProof.Rows L2
/-! ### list(zip(xs, ys)), as a value -/
theorem inv_lays {X : Cx} {pins : List (Addr × Obj)} {σ : L2.St} {H H' : Hp} {s : Shared} {h' : Heap} {tk : Nat} (I : Inv X pins σ H s)
    (keepH : ∀ b o, H b = some o → H' b = some o) (keeph : ∀ b o, s.heap.get? b = some o → h'.get? b = some o)
    (new : ∀ b o, H' b = some o → H b = some o ∨ (s.heap.objs.size ≤ b ∧ ObjOk X.prog X.w H' h' b o)) :
    Inv X pins σ H' { heap := h', gens := s.gens, drawn := s.drawn, toks := tk, os := s.os } := by
  refine I.call' (ch := []) (s' := { heap := h', gens := s.gens, drawn := s.drawn, toks := tk, os := s.os }) rfl ⟨fun b o e _ _ _ => keeph b o e, fun b o e _ _ _ => ⟨o.slots, keeph b o e⟩, fun b o e hn _ => ?_, fun b o e _ => ⟨o, keeph b o e⟩, fun b xs e => keepH b _ e, fun b o u e => keepH b _ e, fun b ps e => ⟨#[], by rw [Array.append_empty]; exact keepH b _ e⟩⟩ (fun a o e => ?_) I.bare (fun b hb => nomatch hb)
  · cases hb : H' b with
    | none => rfl
    | some u =>
      rcases new b u hb with q | ⟨q, _⟩
      · rw [hn] at q; cases q
      · exact absurd (Heap.lt_size e) (Nat.not_lt.mpr q)
  · rcases new a o e with q | ⟨_, q⟩
    · exact (I.hok a o q).stay (fun b u _ g => keeph b u g) (fun b g => keepH b _ g) (fun b xs g => keepH b _ g)
    · exact q
def lzH (H : Hp) : List Addr → List V → List V → Hp
  | a :: as, u :: us, v :: vs => lzH (upd H a (.tup [u, v])) as us vs
  | _, _, _ => H
def zipD : List D → List D → List D
  | x :: xs, y :: ys => .tup [x, y] :: zipD xs ys
  | _, _ => []
theorem lz_off {b : Addr} : ∀ (as : List Addr) (us vs : List V) (H : Hp), b ∉ as → lzH H as us vs b = H b
  | [], us, vs, H, _ => by unfold lzH; rfl
  | a :: as, [], vs, H, _ => by unfold lzH; rfl
  | a :: as, u :: us, [], H, _ => by unfold lzH; rfl
  | a :: as, u :: us, v :: vs, H, h => by
    unfold lzH
    rw [lz_off as us vs _ (fun z => h (List.mem_cons_of_mem _ z)), upd_ne (fun e : b = a => h (by rw [e]; exact List.mem_cons_self))]
theorem lz_get {b : Addr} {o : HO} : ∀ (as : List Addr) (us vs : List V) (H : Hp), lzH H as us vs b = some o → H b = some o ∨ ∃ (j : Nat) (u v : V), as[j]? = some b ∧ us[j]? = some u ∧ vs[j]? = some v ∧ o = .tup [u, v]
  | [], us, vs, H, h => by unfold lzH at h; exact .inl h
  | a :: as, [], vs, H, h => by unfold lzH at h; exact .inl h
  | a :: as, u :: us, [], H, h => by unfold lzH at h; exact .inl h
  | a :: as, u :: us, v :: vs, H, h => by
    unfold lzH at h
    rcases lz_get as us vs _ h with q | ⟨j, u', v', e1, e2, e3, e4⟩
    · by_cases e : b = a
      · subst e
        rw [upd_same] at q
        cases q
        exact .inr ⟨0, u, v, rfl, rfl, rfl, rfl⟩
      · rw [upd_ne e] at q
        exact .inl q
    · exact .inr ⟨j + 1, u', v', e1, e2, e3, e4⟩
theorem lz_nxt {K : PySem.W.Frag} {φ : List Addr} {m : Mem} : ∀ (as : List Addr) {xs ys : List D} {us vs : List V} {F H : Hp}, Rep K F φ m H → VRs K F φ xs us → VRs K F φ ys vs → as.length = min xs.length ys.length → (∀ a ∈ as, H a = none) → as.Pairwise (fun x y => x < y) →
    ∃ F', Nxt K F φ m H F' φ m (lzH H as us vs) ∧ VRs K F' φ (zipD xs ys) (as.map V.ref)
  | [], xs, ys, us, vs, F, H, rp, rx, ry, hl, _, _ => by
    have hz : zipD xs ys = [] := by
      cases xs with
      | nil => rfl
      | cons x xs =>
        cases ys with
        | nil => rfl
        | cons y ys => simp only [List.length_cons, List.length_nil] at hl; omega
    rw [hz]
    exact ⟨F, by unfold lzH; exact Nxt.refl rp, .nil⟩
  | a :: as, [], ys, us, vs, F, H, rp, rx, ry, hl, _, _ => by simp at hl
  | a :: as, x :: xs, [], us, vs, F, H, rp, rx, ry, hl, _, _ => by simp at hl
  | a :: as, x :: xs, y :: ys, us, vs, F, H, rp, rx, ry, hl, hn, hp => by
    cases rx with
    | @cons _ _ u us rx1 rx2 =>
      cases ry with
      | @cons _ _ v vs ry1 ry2 =>
        have n1 := rp.frozen (o := .tup [u, v]) (hn a List.mem_cons_self)
        have hlt := (List.pairwise_cons.mp hp).1
        obtain ⟨F', n2, r2⟩ := lz_nxt as n1.rep (rx2.mono n1.exF n1.pre) (ry2.mono n1.exF n1.pre) (by simp only [List.length_cons] at hl; omega)
          (fun b hb => by rw [upd_ne (Nat.ne_of_gt (hlt b hb))]; exact hn b (List.mem_cons_of_mem _ hb)) (List.pairwise_cons.mp hp).2
        have ex := n1.exF.trans n2.exF
        refine ⟨F', by unfold lzH; exact n1.trans n2, .cons (.tup (SqT.of (n2.exF _ _ upd_same)) (.cons (rx1.mono ex (Pre.refl _)) (.cons (ry1.mono ex (Pre.refl _)) .nil))) r2⟩
theorem vals_refs : ∀ as : List Addr, Vals (as.map V.ref) (as.map Value.ref)
  | [] => .nil
  | a :: as => .cons rfl (vals_refs as)
def eListZip (fr : AF) : EF := fun ρ m => match fr ρ m with
  | some ([.lst xs, .lst ys], m1) => some (.lst (zipD xs ys), m1)
  | _ => none
theorem zap (n a b : Nat) (ha : a < n) (hb : b < n) : ZipApart (n + 4) (n + 2) (n + 3) n (n + 1) a b :=
  ⟨Nat.ne_of_lt (by omega), Nat.ne_of_lt (by omega), Nat.ne_of_lt (by omega), Nat.ne_of_lt (by omega), Nat.ne_of_lt (by omega), Nat.ne_of_gt (by omega), Nat.ne_of_gt (by omega), Nat.ne_of_gt (by omega), Nat.ne_of_gt (by omega),
    Nat.ne_of_lt (by omega), Nat.ne_of_lt (by omega), Nat.ne_of_lt (by omega), Nat.ne_of_lt (by omega), Nat.ne_of_lt (by omega), Nat.ne_of_lt (by omega), Nat.ne_of_lt (by omega), Nat.ne_of_lt (by omega), Nat.ne_of_lt (by omega)⟩
section
variable {X : Cx} {e1 e2 : Expr} {x z : Str} {p p2 pos pos2 : Pos} {fr : AF}
set_option maxHeartbeats 1000000 in
theorem j_listZip (hc : X.calm = true) (ha : JA X [e1, e2] fr) (hm : X.mg x = none) (hv : bootBuiltins x = some (.type "list")) (hm2 : X.mg z = none) (hv2 : bootBuiltins z = some (.type "zip"))
    (hg : Gl X x := by rfl) (hn : x ≠ "__name__" := by decide) (hdb : (x == ("__debug__" : Str)) = false := by decide)
    (hg2 : Gl X z := by rfl) (hn2 : z ≠ "__name__" := by decide) (hdb2 : (z == ("__debug__" : Str)) = false := by decide)
    (hs : starEach [.Call (.Name z p2) [e1, e2] [] pos2] X.env = (false, eval (.Call (.Name z p2) [e1, e2] [] pos2) X.env) :: starEach [] X.env := by rfl) (hpl : (backTo pos (starEach [] X.env)).any (·.1) = false := by rfl)
    (hs2 : starEach [e1, e2] X.env = (false, eval e1 X.env) :: starEach [e2] X.env := by rfl) (hpl2 : (backTo pos2 (starEach [e2] X.env)).any (·.1) = false := by rfl) :
    JE X (.Call (.Name x p) [.Call (.Name z p2) [e1, e2] [] pos2] [] pos) (eListZip fr) := ⟨fun {F φ m H ρ σ d m'} rp er hf Q q => by
  unfold eListZip at hf
  split at hf
  · rename_i xs ys m1 h1
    cases hf
    intro pins s I
    refine wpAny_Call_Name_kw (ld_blt I hg hm hv (callWith_type1 ?_ hs hpl) hn hdb)
    rw [hs]
    refine Calls.spliced_cons ?_
    refine wpAny_Call_Name_kw (ld_blt I hg2 hm2 hv2 (callWith_type1 ?_ hs2 hpl2) hn2 hdb2)
    refine thn ((ha.run rp er h1 (fun vs H1 => ∃ F1 φ1, Nxt X.K F φ m H F1 φ1 m' H1 ∧ VRs X.K F1 φ1 [.lst xs, .lst ys] vs) fun F1 φ1 vs H1 n1 r1 => ⟨F1, φ1, n1, r1⟩) pos2 pins s I) fun us s1 hx => ?_
    obtain ⟨vs, H1, I1, rv, F1, φ1, n1, r1⟩ := hx
    obtain ⟨v1, v2, rfl, ra, rb⟩ := r1.two
    cases ra with
    | @lst a _ wa ha1 rva =>
      cases rb with
      | @lst b _ wb hb1 rvb =>
        obtain ⟨w1, w2, rfl, q1, q2⟩ := rv.two
        cases q1; cases q2
        obtain ⟨ia, va, la, za⟩ := I1.list (SqL.of (n1.rep.ex _ _ ha1))
        obtain ⟨ib, vb, lb, zb⟩ := I1.list (SqL.of (n1.rep.ex _ _ hb1))
        have La := la.isList
        have Lb := lb.isList
        have lta : a < s1.heap.objs.size := by obtain ⟨o, e, _⟩ := La; exact Heap.lt_size e
        have ltb : b < s1.heap.objs.size := by obtain ⟨o, e, _⟩ := Lb; exact Heap.lt_size e
        refine call_zip_2 La Lb fun h2 g1 g2 g3 g4 g5 g6 g7 => ?_
        refine Calls.spliced_nil ?_
        have D : ZipApart (s1.heap.objs.size + 4) (s1.heap.objs.size + 2) (s1.heap.objs.size + 3) s1.heap.objs.size (s1.heap.objs.size + 1) a b := zap _ _ _ lta ltb
        have lea : ia.length = wa.length := va.length.symm
        have leb : ib.length = wb.length := vb.length.symm
        have mz : min wa.length wb.length ≤ sizeLine := Nat.le_trans (Nat.min_le_left _ _) za
        refine call_list_zip (I.ok.hd hc) D (by simp only [List.size_toArray]; rw [lea, leb]; exact mz) g1 g3 g2 g4 g5 (IsList_at La fun o e => g7 _ _ e) (IsList_at Lb fun o e => g7 _ _ e) fun h3 tk acc c as k1 k2 k3 k4 k5 => ?_
        simp only [List.size_toArray] at k3
        obtain ⟨k4a, k4b, k4c⟩ := k4
        have f1 := I1.hok
        have fresh : ∀ b : Addr, s1.heap.objs.size ≤ b → H1 b = none := fun b hb => f1.fresh hb
        have sz2 : s1.heap.objs.size ≤ h2.objs.size := by rw [g6]; exact Nat.le_add_right _ _
        have gea : ∀ t ∈ as, s1.heap.objs.size ≤ t := fun t ht => Nat.le_trans sz2 (Nat.le_trans (Nat.le_succ _) (k4a t ht))
        obtain ⟨F2, n2, r2⟩ := lz_nxt as n1.rep rva rvb (by rw [rva.len, rvb.len, ← lea, ← leb]; exact k3) (fun t ht => fresh t (gea t ht)) k4b
        have Lout : h2.objs.size ∉ as := fun ht => Nat.not_succ_le_self _ (k4a _ ht)
        have hL : lzH H1 as wa wb h2.objs.size = none := by rw [lz_off _ _ _ _ Lout]; exact fresh _ sz2
        have n3 := n2.rep.frozen (o := .lst (as.map V.ref)) hL
        have keep12 : ∀ b o, s1.heap.get? b = some o → h3.get? b = some o := fun b o e => by
          have hb := Heap.lt_size e
          exact k1 b o (Nat.ne_of_lt (Nat.lt_of_lt_of_le hb (Nat.le_add_right _ 4))) (Nat.ne_of_lt (Nat.lt_of_lt_of_le hb (Nat.le_add_right _ 3))) (Nat.ne_of_lt hb) (Nat.ne_of_lt (Nat.lt_of_lt_of_le hb (Nat.le_add_right _ 1))) (g7 b o e)
        have J : Inv X pins σ (upd (lzH H1 as wa wb) h2.objs.size (.lst (as.map V.ref))) { heap := h3, gens := s1.gens, drawn := s1.drawn, toks := tk, os := s1.os } := by
          refine inv_lays I1 (fun b o e => ?_) keep12 fun b o e => ?_
          · have ne : b ≠ h2.objs.size := fun w => by rw [w, fresh _ sz2] at e; cases e
            rw [upd_ne ne, lz_off _ _ _ _ (fun ht => by rw [fresh b (gea b ht)] at e; cases e)]
            exact e
          · by_cases eb : b = h2.objs.size
            · subst eb
              rw [upd_same] at e
              cases e
              refine .inr ⟨sz2, ?_⟩
              show _ ∧ _
              refine ⟨by rw [List.length_map, k3, lea, leb]; exact mz, as.map Value.ref, c, vals_refs as, ?_⟩
              rw [k2, ← k5]
            · rw [upd_ne eb] at e
              rcases lz_get _ _ _ _ e with q1 | ⟨j, u, v, e1, e2, e3, rfl⟩
              · exact .inl q1
              · refine .inr ⟨gea b (List.mem_of_getElem? e1), ?_⟩
                obtain ⟨x', y', x1, y1, pr⟩ := k4c j b e1
                obtain ⟨u', u1, u2⟩ := va.get e2
                obtain ⟨v', v1, v2⟩ := vb.get e3
                have ex : x' = u' := by
                  have : ia[j]? = some x' := by simpa using x1
                  rw [this] at u1; exact Option.some.inj u1
                have ey : y' = v' := by
                  have : ib[j]? = some y' := by simpa using y1
                  rw [this] at v1; exact Option.some.inj v1
                subst ex ey
                show _ ∧ _
                exact ⟨show 2 ≤ sizeLine by decide, [x', y'], .cons u2 (.cons v2 .nil), _, pr, rfl, _, rfl⟩
        exact ⟨.ref h2.objs.size, _, J, rfl, q _ _ _ _ (n1.trans (n2.trans n3)) (.lst upd_same (r2.mono n3.exF n3.pre))⟩
  · cases hf⟩
end
end VI
end
section
namespace VI
open PySem PySem.Spec PyProof.Rows L2
section
variable {X : Cx}
/-! ### x in a list of data -/
def inData (x y : D) : Option Bool := match y.pd, x.pd with
  | some (.list ps), some p => if (okPD (.list ps) && okPD p) = true then some (ps.any fun y => PyData.eqv y p) else none
  | _, _ => none
def oInD (_ : Mem) (x y : D) : Option D := match inData x y with | some b => some (.bl b) | none => none
theorem op_inData (hu : X.A.units + 64 < cLine) : OpR X (compareOp .In) fun x y H Q => ∃ ps p, Dp X.K H y (.list ps) ∧ Dp X.K H x p ∧ okPD (.list ps) = true ∧ okPD p = true ∧ Q (.bl (ps.any fun y => PyData.eqv y p)) H := by
  rintro pins s σ H x y v u Q I rx ry ⟨ps, p, hy, hx, o1, o2, q⟩
  obtain ⟨as, ra⟩ := Dp.reads I _ y u hy ry
  obtain ⟨bs, rb⟩ := Dp.reads I _ x v hx rx
  have p1 : PyData.plainAll ps = true := okPD.p o1
  have hd : (PyData.list ps).depth ≤ 64 := of_decide_eq_true (Bool.and_eq_true_iff.mp o1).2
  have hd' : PyData.depthAll ps + 1 ≤ 64 := hd
  have hm : min (PyData.depthAll ps) p.depth ≤ PyData.depthAll ps := Nat.min_le_left _ _
  exact SeqAt.in_list_data ra rb p1 (okPD.p o2) (by omega) ⟨.bl _, H, I, rfl, q⟩
theorem od_inD (hu : X.A.units + 64 < cLine) : OD X (compareOp .In) oInD := by
  intro F φ m H x y d vx vy rp rx ry h Q q
  unfold oInD at h
  split at h
  · rename_i b hb
    cases h
    unfold inData at hb
    split at hb
    · rename_i ps p e1 e2
      split at hb
      · rename_i hok
        cases hb
        rw [Bool.and_eq_true] at hok
        exact ⟨_, op_inData hu, ps, p, ry.dp rp.ex e1, rx.dp rp.ex e2, hok.1, hok.2, same rp q (.bl _)⟩
      · cases hb
    · cases hb
  · cases h
end
end VI
end
section
namespace VI
open PySem PySem.Spec PyProof.Rows L2
section
variable {X : Cx} {a b c e f o tg : Expr} {es : List Expr} {pos p apos cpos : Pos} {fa fb fe ff fo fi : EF} {fr : AF} {x name : Str}
theorem VRs.rep {K : PySem.W.Frag} {F : Hp} {φ : List Addr} {ds : List D} {vs : List V} (r : VRs K F φ ds vs) : ∀ k, VRs K F φ (List.replicate k ds).flatten (List.replicate k vs).flatten
  | 0 => .nil
  | k + 1 => by
    rw [List.replicate_succ, List.flatten_cons, List.replicate_succ, List.flatten_cons]
    exact r.app (r.rep k)
/-- a list, again and again -/
def oRep : Mem → D → D → Option D
  | _, .lst ds, .int k => if -1000000 < k ∧ k < 1000000 ∧ ds.length ≤ 16 then some (.lst (List.replicate k.toNat ds).flatten) else none
  | _, _, _ => none
theorem od_rep : OD X (binaryOp .Mult) oRep := by
  intro F φ m H x y d vx vy rp rx ry h Q q
  unfold oRep at h
  split at h
  · split at h
    · rename_i ds k hc
      obtain ⟨h1, h2, h3⟩ := hc
      cases h
      cases rx with
      | @lst a _ vs hq rv =>
        cases ry
        have hl : ds.length = vs.length := rv.len
        have hm : vs.length * k.toNat ≤ 16 * 1000000 := Nat.mul_le_mul (by omega) (by omega)
        have esz : sizeLine = 16777216 := by decide
        refine ⟨_, op_rep, a, k, vs, rfl, rfl, rp.ex _ _ hq, by omega, by omega, by omega, fun p hp => ?_⟩
        have n := rp.frozen (o := .lst (List.replicate k.toNat vs).flatten) hp
        exact q _ _ _ _ n (.lst upd_same ((rv.rep k.toNat).mono n.exF n.pre))
    · cases h
  · cases h
/-! ### xs.extend(e): e a list or a tuple -/
def anyD (m : Mem) : D → Option (List D)
  | .tup ds => some ds
  | d => lstD m d
def rOr (r1 r2 : V → List V → Hp → VK → Prop) : V → List V → Hp → VK → Prop := fun x vs H Q => r1 x vs H Q ∨ r2 x vs H Q
theorem mt_or {id : String} {r1 r2 : V → List V → Hp → VK → Prop} (h1 : MtM X id r1) (h2 : MtM X id r2) : MtM X id (rOr r1 r2) := by
  intro pins s σ H x vs v us Q I rx rv h
  rcases h with h | h
  · exact h1 _ _ _ _ _ _ _ _ _ I rx rv h
  · exact h2 _ _ _ _ _ _ _ _ _ I rx rv h
def eExtA (fo fe : EF) : EF := fun ρ m => match fo ρ m with
  | some (.cell c, m1) => match m1[c]? with
    | some (.lst _) => match fe ρ m1 with
      | some (d, m2) => match m2[c]? with
        | some (.lst ds) => match anyD m2 d with
          | some es => if ds.length + es.length ≤ 16777216 then some (.non, m2.set c (.lst (ds ++ es))) else none
          | none => none
        | _ => none
      | none => none
    | _ => none
  | _ => none
theorem j_extA (ho : JE X o fo) (he : JE X e fe) (hbase : attributeBase o "extend" X.env (eval o X.env) = eval o X.env := by rfl)
    (hfew : ((backTo cpos (starEach [e] X.env)).all (fun x => !x.1) && (backToKw cpos (keywordEach [] X.env)).all (fun x => x.1.isSome)
      && decide ([e].length + ([] : List Keyword).length + (if ([] : List Keyword).isEmpty then 0 else 1) < 30)) = true := by rfl)
    (hline : (apos.endLine == cpos.line) = true := by rfl) (hs : starEach [e] X.env = (false, eval e X.env) :: starEach [] X.env := by rfl) (hplain : (backTo cpos (starEach [] X.env)).any (·.1) = false := by rfl) :
    JE X (.Call (.Attribute o "extend" apos) [e] [] cpos) (eExtA fo fe) := ⟨fun {F φ m H ρ σ d m'} rp er hf Q q => by
  refine we_of (pe_bm PySem.F.plainAttrs_list PySem.F.slot_list_extend PySem.F.type_list_extend (mt_or mt_extend mt_extT) pe_w pa_w hbase hfew hline hs hplain) ?_
  unfold eExtA at hf
  split at hf
  · rename_i c m1 h1
    split at hf
    · rename_i ds0 hm0
      split at hf
      · rename_i d1 m2 h2
        split at hf
        · rename_i ds hm
          split at hf
          · rename_i es hes
            split at hf
            · rename_i hl
              cases hf
              refine ho.run rp er h1 _ fun F1 φ1 v H1 n1 r1 => ?_
              cases r1 with
              | @cell _ a hp =>
                obtain ⟨_, o1, ho1, vs1, rfl, rv1⟩ := n1.rep.cell _ _ _ hm0 (fun e => nomatch e) hp
                refine ⟨.inl ⟨rfl, _, SqL.of ho1⟩, ?_⟩
                refine (ja_cons (X := X) he ja_nil hs).run n1.rep (er.mono n1.exF n1.pre) (ds := [d1]) (m' := m2) (by simp only [aCons, h2, aNil]) _ fun F2 φ2 vs H2 n2 r2 => ?_
                obtain ⟨vy, rfl, ry⟩ := r2.one
                have hp2 := n2.pre _ _ hp
                obtain ⟨_, o2, ho2, vs2, rfl, rv2⟩ := n2.rep.cell _ _ _ hm (fun e => nomatch e) hp2
                have fin : ∀ ws, VRs X.K F2 φ2 es ws → Q .non (upd H2 a (.lst (vs2 ++ ws))) := fun ws rw' => by
                  have n3 := n2.rep.write (y := O.lst (ds ++ es)) (o := .lst (vs2 ++ ws)) hm (fun e => nomatch e) hp2 (fun e => nomatch e) ⟨_, rfl, rv2.app rw'⟩
                  exact q _ _ _ _ ((n1.trans n2).trans n3) .non
                unfold anyD at hes
                split at hes
                · cases hes
                  cases ry with
                  | @tup g _ ws hg rw' =>
                    exact .inr ⟨a, g, vs2, ws, rfl, rfl, ho2, Evl.ex_t n2.rep.ex hg, by rw [← rv2.len, ← rw'.len]; exact hl, fin ws rw'⟩
                · obtain ⟨g, ws, rfl, hg, rw'⟩ := lstD_ok n2.rep ry hes
                  exact .inl ⟨a, g, vs2, ws, rfl, rfl, ho2, hg, by rw [← rv2.len, ← rw'.len]; exact hl, fin ws rw'⟩
            · cases hf
          · cases hf
        · cases hf
      · cases hf
    · cases hf
  · cases hf⟩
end
end VI
end
section
namespace VI
open PySem PySem.Spec PyProof.Rows L2
section
variable {K : PySem.W.Frag} {F F' : Hp} {φ φ' : List Addr} {m m' : Mem} {H H' : Hp} {p : Addr} {o : HO}
/-- an object beside all that is told here is looked away from -/
def hide (H : Hp) (p : Addr) : Hp := fun a => if a = p then none else H a
theorem hide_same : hide H p p = none := if_pos rfl
theorem hide_ne {a : Addr} (h : a ≠ p) : hide H p a = H a := if_neg h
theorem Nxt.hide (n : Nxt K F φ m H F' φ' m' H') (h0 : H p = none) (nl : ¬ Live φ' m' p) (hF : F' p = none) : Nxt K F φ m H F' φ' m' (VI.hide H' p) := by
  have ne : ∀ (i : Nat) (x : O) (a : Addr), m'[i]? = some x → x ≠ O.dead → φ'[i]? = some a → a ≠ p := fun i x a h1 h2 h3 e => by
    subst e; exact nl ⟨i, x, h1, h2, h3⟩
  refine ⟨n.exF, n.pre, ⟨n.rep.len, fun a x h => ?_, fun i x a h1 h2 h3 => ?_, n.rep.inj⟩, fun a x h l => ?_⟩
  · have e : a ≠ p := fun e => by subst e; rw [hF] at h; cases h
    rw [hide_ne e]; exact n.rep.ex a x h
  · obtain ⟨q1, y, q2, q3⟩ := n.rep.cell i x a h1 h2 h3
    exact ⟨q1, y, by rw [hide_ne (ne i x a h1 h2 h3)]; exact q2, q3⟩
  · have e : a ≠ p := fun e => by subst e; rw [h0] at h; cases h
    obtain ⟨q1, q2, q3⟩ := n.keep a x h l
    exact ⟨by rw [hide_ne e]; exact q1, q2, q3⟩
/-- an object beside all that is told here becomes a cell -/
theorem Nxt.adopt (n : Nxt K F φ m H F' φ' m' H') (h0 : H p = none) {vs : List V} {ds : List D} (h1 : H' p = some (.lst vs)) (nl : ¬ Live φ' m' p) (hF : F' p = none) (rv : VRs K F' φ' ds vs) :
    Nxt K F φ m H F' (φ' ++ [p]) (m' ++ [.lst ds]) H' := by
  have n1 := n.hide h0 nl hF
  have n2 := n1.rep.alloc (x := O.lst ds) (o := .lst vs) (p := p) hide_same (fun e => nomatch e) ⟨vs, rfl, rv⟩
  have e : upd (VI.hide H' p) p (.lst vs) = H' := by
    funext a
    by_cases h : a = p
    · subst h; rw [upd_same, h1]
    · rw [upd_ne h, hide_ne h]
  rw [e] at n2
  exact n1.trans n2
theorem adopt_at (n : Rep K F φ m H) : (φ ++ [p])[m.length]? = some p := by
  rw [← n.len, List.getElem?_append_right (Nat.le_refl _)]
  simp
/-! ### a list of lists is given up, down to what is within -/
def frz2 : List D → Mem → Option (List D × Mem)
  | [], m => some ([], m)
  | d :: r, m => match d with
    | .cell c => match m[c]? with
      | some (.lst ds) => match frz2 r (m.set c .dead) with
        | some (es, m1) => some (.lst ds :: es, m1)
        | none => none
      | _ => none
    | _ => none
def eFrz2 (fe : EF) : EF := fun ρ m => match fe ρ m with
  | some (.cell c, m1) => match m1[c]? with
    | some (.lst ds) => match frz2 ds (m1.set c .dead) with
      | some (es, m2) => some (.lst es, m2)
      | none => none
    | _ => none
  | _ => none
theorem frz2_ok : ∀ {ds es : List D} {vs : List V} {F : Hp} {m m' : Mem}, Rep K F φ m H → VRs K F φ ds vs → frz2 ds m = some (es, m') → ∃ F', Nxt K F φ m H F' φ m' H ∧ VRs K F' φ es vs
  | [], es, vs, F, m, m', rp, rv, h => by
    cases h; cases rv
    exact ⟨F, Nxt.refl rp, .nil⟩
  | d :: r, es, vs, F, m, m', rp, rv, h => by
    unfold frz2 at h
    split at h
    · rename_i c
      split at h
      · rename_i ds hc
        split at h
        · rename_i es1 m1 h1
          cases h
          cases rv with
          | cons r0 rr =>
            cases r0 with
            | cell hp =>
              obtain ⟨ws, h3, h4, n1⟩ := rp.freeze hc hp
              obtain ⟨F2, n2, r2⟩ := frz2_ok n1.rep (rr.mono n1.exF n1.pre) h1
              have r1 : VR K _ φ (.lst ds) _ := .lst (upd_same (o := HO.lst ws)) (h4.mono n1.exF n1.pre)
              exact ⟨F2, n1.trans n2, .cons (r1.mono n2.exF n2.pre) r2⟩
        · cases h
      · cases h
    · cases h
end
section
variable {X : Cx} {a b c e f o tg elt iter tg1 iter1 : Expr} {es ifs : List Expr} {pos p apos cpos : Pos} {fa fb fe ff fo : EF} {fi fi1 fr : AF} {g g1 : GF} {ws : List Nat} {tc : TF} {x name : Str}
theorem j_frz2 (h : JE X e fe) : JE X e (eFrz2 fe) := ⟨fun {F φ m H ρ σ d m'} rp er hf Q q => by
  unfold eFrz2 at hf
  split at hf
  · rename_i i m1 h1
    split at hf
    · rename_i ds h2
      split at hf
      · rename_i es m2 h3
        cases hf
        refine h.run rp er h1 _ fun F1 φ1 v H1 n1 r1 => ?_
        cases r1 with
        | cell hp =>
          obtain ⟨vs, h4, h5, n2⟩ := n1.rep.freeze h2 hp
          obtain ⟨F3, n3, r3⟩ := frz2_ok n2.rep (h5.mono n2.exF n2.pre) h3
          exact q _ _ _ _ ((n1.trans n2).trans n3) (.lst (n3.exF _ _ upd_same) r3)
      · cases hf
    · cases hf
  · cases hf⟩
/-! ### s.split(t), s.split() -/
def splitL (s t : List Nat) : List (List Nat) := (Txt.split (S s) (S t)).map fun x => x.cps.toList
def wordsL (s : List Nat) : List (List Nat) := (Txt.words (S s)).map fun x => x.cps.toList
theorem back_S (l : List Str) : ((l.map fun x => x.cps.toList).map S).map V.str = l.map V.str := by
  rw [List.map_map, List.map_map]
  refine List.map_congr_left fun x _ => ?_
  show V.str (S x.cps.toList) = V.str x
  rw [S_mk]
def sSplit (s : List Nat) : Mem → List D → Option D
  | _, [.str t] => if t ≠ [] ∧ s.length ≤ 1000000 then some (.lst ((splitL s t).map .str)) else none
  | _, _ => none
theorem ms_split : MS X "str.split" sSplit := by
  intro F φ m H s ds d vs rp r hh Q q
  unfold sSplit at hh
  split at hh
  · split at hh
    · rename_i t' hl
      cases hh
      obtain ⟨v, rfl, r0⟩ := r.one
      cases r0
      have esz : sizeLine = 16777216 := by decide
      refine ⟨_, mt_split, S s, S t', rfl, rfl, ?_, ?_, fun p hp => ?_⟩
      · rw [S_len]
        cases t' with
        | nil => exact absurd rfl hl.1
        | cons a r => rfl
      · rw [S_len]; omega
      · have n := rp.frozen (o := .lst ((Txt.split (S s) (S t')).map V.str)) hp
        refine q _ _ _ _ n (.lst upd_same ?_)
        rw [← back_S]
        exact (VRs.strs (splitL s t'))
    · cases hh
  · cases hh
def eWords (fo : EF) : EF := fun ρ m => match fo ρ m with
  | some (.str s, m1) => if s.length ≤ 1000000 then some (.lst ((wordsL s).map .str), m1) else none
  | _ => none
theorem j_words (ho : JE X o fo) (hbase : attributeBase o "split" X.env (eval o X.env) = eval o X.env := by rfl) (hline : (apos.endLine == pos.line) = true := by rfl) : JE X (.Call (.Attribute o "split" apos) [] [] pos) (eWords fo) := ⟨fun {F φ m H ρ σ d m'} rp er hf Q q => by
  refine we_of (pe_words pe_w hbase hline) ?_
  unfold eWords at hf
  split at hf
  · rename_i s m1 h1
    split at hf
    · rename_i hl
      cases hf
      refine ho.run rp er h1 _ fun F1 φ1 v H1 n1 r1 => ?_
      cases r1
      have esz : sizeLine = 16777216 := by decide
      refine ⟨⟨_, rfl⟩, S s, rfl, rfl, by rw [S_len]; omega, fun p hp => ?_⟩
      have n := n1.rep.frozen (o := .lst ((Txt.words (S s)).map V.str)) hp
      refine q _ _ _ _ (n1.trans n) (.lst upd_same ?_)
      rw [← back_S]
      exact (VRs.strs (wordsL s))
    · cases hf
  · cases hf⟩
/-! ### enumerate(xs) -/
def enumD : Nat → List D → List D
  | _, [] => []
  | i, d :: r => .tup [.int i, d] :: enumD (i + 1) r
theorem enumD_len : ∀ (ds : List D) (k : Nat), (enumD k ds).length = ds.length
  | [], _ => rfl
  | _ :: r, k => by show (enumD (k + 1) r).length + 1 = r.length + 1; rw [enumD_len r]
theorem enumD_get : ∀ {ds : List D} {k i : Nat} {d : D}, (enumD k ds)[i]? = some d → ∃ y, ds[i]? = some y ∧ d = .tup [.int (k + i : Nat), y]
  | [], _, _, _, h => by cases h
  | y :: r, k, 0, d, h => by cases h; exact ⟨y, rfl, rfl⟩
  | y :: r, k, i + 1, d, h => by
    obtain ⟨z, h1, h2⟩ := enumD_get (ds := r) (k := k + 1) (i := i) h
    exact ⟨z, h1, by rw [h2]; have : k + 1 + i = k + (i + 1) := by omega
                     rw [this]⟩
theorem it_enum {F : Hp} {φ : List Addr} {a : Addr} {ds : List D} {vs : List V} {K : PySem.W.Frag} (h : SqL K F a vs) (r : VRs K F φ ds vs) : ItD K F φ (Ite K a) (enumD 0 ds) :=
  ⟨fun i H ex hi => by
    rw [enumD_len] at hi
    obtain ⟨v, h1, _⟩ := r.get (List.getElem?_eq_getElem hi)
    exact ⟨vs, v, Evl.ex_l ex h, h1⟩,
   fun i F1 φ1 m1 H x H' d rp ex pr hd hy => by
    obtain ⟨T, y, e, hT, eH, hy⟩ := hy
    subst e; subst eH
    obtain ⟨d0, h0, rfl⟩ := enumD_get hd
    obtain ⟨v, h1, h2⟩ := r.get h0
    have := hy vs (Evl.ex_l (ex.trans rp.ex) h)
    rw [h1] at this
    cases this
    have n := rp.frozen (o := .tup [.int (i : Nat), y]) hT
    refine ⟨_, n, .tup (SqT.of upd_same) (.cons ?_ (.cons ((h2.mono ex pr).mono n.exF n.pre) .nil))⟩
    rw [Nat.zero_add]
    exact .int _,
   fun i H ex hi => ⟨vs, Evl.ex_l ex h, by rw [← r.len, ← enumD_len ds 0]; exact hi⟩⟩
def aEnum (fe : EF) : AF := fun ρ m => match fe ρ m with
  | some (.lst ds, m1) => some (enumD 0 ds, m1)
  | _ => none
theorem ji_enum {elts : List Expr} {kk : Nat} {tpos : Pos} (h : JE X e fe) (hm : X.mg "enumerate" = none) (hg : Gl X "enumerate" := by rfl) (hs : starEach [e] X.env = [(false, eval e X.env)] := by rfl) :
    JI X (.Tuple elts kk tpos) (.Call (.Name "enumerate" p) [e] [] pos) (aEnum fe) := ⟨fun {F φ m H ρ σ ds m'} rp er hf R q => by
  unfold aEnum at hf
  split at hf
  · rename_i ds m1 h1
    cases hf
    refine wi_of (pi_enum hg hm pa_w hs) ?_
    refine (ja_cons (X := X) h ja_nil hs).run rp er (ds := [.lst ds]) (m' := m') ?_ _ fun F1 φ1 vs H1 n1 r1 => ?_
    · unfold aCons; rw [h1]; rfl
    · cases r1 with
      | cons r0 rr =>
        cases rr
        cases r0 with
        | @lst a _ ws hq rv => exact ⟨a, ws, rfl, SqL.of (n1.rep.ex _ _ hq), q _ _ _ _ n1 (it_enum (SqL.of hq) rv)⟩
  · cases hf⟩
end
end VI
end
section
namespace VI
open PySem PySem.Spec PyProof.Rows L2
section
variable {X : Cx} {elt tg iter tg1 iter1 : Expr} {ifs : List Expr} {pos : Pos} {fe : EF} {fi fi1 : AF} {g g1 : GF} {ws ws1 : List Nat} {tc : TF}
theorem compV_grow {own : List Nat} {ρ : Env} : ∀ (ds acc res : List D) (m m' : Mem), compV own g tc fe ρ ds acc m = some (res, m') → acc.length ≤ res.length
  | [], acc, res, m, m', h => by cases h; exact Nat.le_refl _
  | d :: ds, acc, res, m, m', h => by
    unfold compV at h
    split at h
    · split at h
      · split at h
        · have := compV_grow ds _ res _ m' h
          simp only [List.length_append, List.length_cons, List.length_nil] at this
          omega
        · cases h
      · exact compV_grow ds _ res _ m' h
      · cases h
    · cases h
/-- what is known of a list D that grows: beside all that is told -/
def Beside (K : PySem.W.Frag) (F : Hp) (φ : List Addr) (m : Mem) (H : Hp) (p : Addr) (acc : List D) : Prop := ∃ vs, H p = some (.lst vs) ∧ VRs K F φ acc vs ∧ ¬ Live φ m p ∧ F p = none
def comp2V (own own1 : List Nat) (g : GF) (fi1 : AF) (g1 : GF) (e : EF) (ρ : Env) : List D → List D → Mem → Option (List D × Mem)
  | [], acc, m => some (acc, m)
  | d :: ds, acc, m => match g d (wipeD ρ own) m with
    | some (ρ1, m1) => match fi1 ρ1 m1 with
      | some (ds1, m2) => match compV own1 g1 tYes e ρ1 ds1 acc m2 with
        | some (acc1, m3) => comp2V own own1 g fi1 g1 e ρ ds acc1 m3
        | none => none
      | none => none
    | none => none
theorem comp2V_grow {own own1 : List Nat} {ρ : Env} : ∀ (ds acc res : List D) (m m' : Mem), comp2V own own1 g fi1 g1 fe ρ ds acc m = some (res, m') → acc.length ≤ res.length
  | [], acc, res, m, m', h => by cases h; exact Nat.le_refl _
  | d :: ds, acc, res, m, m', h => by
    unfold comp2V at h
    split at h
    · split at h
      · split at h
        · rename_i e3
          have h1 := compV_grow _ _ _ _ _ e3
          have := comp2V_grow ds _ res _ m' h
          omega
        · cases h
      · cases h
    · cases h
def aComp2 (own own1 : List Nat) (it : AF) (g : GF) (it1 : AF) (g1 : GF) (e : EF) : AF := fun ρ m => match it ρ m with
  | some (ds, m1) => match comp2V own own1 g it1 g1 e ρ ds [] m1 with
    | some (res, m2) => if res.length ≤ 16777215 then some (res, m2) else none
    | none => none
  | none => none
def eComp2 (own own1 : List Nat) (it : AF) (g : GF) (it1 : AF) (g1 : GF) (e : EF) : EF := eLst (aComp2 own own1 it g it1 g1 e)
def eComp2C (own own1 : List Nat) (it : AF) (g : GF) (it1 : AF) (g1 : GF) (e : EF) : EF := eCel (aComp2 own own1 it g it1 g1 e)
def eCompC (own : List Nat) (it : AF) (g : GF) (c : TF) (e : EF) : EF := eCel (aComp own it g c e)
def iB (X : Cx) (scope : Scope) (tg1 iter1 : Expr) : TI := fun σ H Q => ∀ s0 H0 C cl fp, WI (X.blk s0 H0 scope (compEnvC scope cl C X.env) fp) tg1 iter1 σ H Q
/-- what is read of a comprehension of one for, whatever its list is then -/
theorem comp_readG (own : List (Str × Nat)) {scope : Scope} (hi : JI X tg iter fi)
    (hg : ∀ (s : Shared) (H : Hp) (C : Addr) (cl : List (Str × Addr)) (fp : List Addr), JG (X.blk s H scope (compEnvC scope cl C X.env) fp) tg g ws)
    (ht : ∀ (s : Shared) (H : Hp) (C : Addr) (cl : List (Str × Addr)) (fp : List Addr), JC (X.blk s H scope (compEnvC scope cl C X.env) fp) ifs tc)
    (he : ∀ (s : Shared) (H : Hp) (C : Addr) (cl : List (Str × Addr)) (fp : List Addr), JE (X.blk s H scope (compEnvC scope cl C X.env) fp) elt fe)
    (hws : ∀ i ∈ ws, i ∈ own.map (·.2))
    {F φ m H ρ σ res m'} (rp : Rep X.K F φ m H) (er : EnvR X.K F φ ρ σ) (hf : aComp (own.map (·.2)) fi g tc fe ρ m = some (res, m')) (Q : VK)
    (q : ∀ F' φ' H0 H' D, ∀ F0 φ0 m0, Nxt X.K F φ m H F0 φ0 m0 H0 → H0 D = none → Nxt X.K F0 φ0 m0 H0 F' φ' m' H' → Beside X.K F' φ' m' H' D res → Q (.ref D) H') :
    tLc (WI X tg iter) (gB X scope tg) (tB2 X scope ifs) (eB X scope elt) (own.map (·.2)) σ H Q := by
  unfold aComp at hf
  split at hf
  · rename_i ds m2 h2
    split at hf
    · rename_i hsz
      rename_i h1
      refine hi.run rp er h2 _ fun F1 φ1 J H1 n1 it D hD => ?_
      have er1 := er.mono n1.exF n1.pre
      have hFD := n1.rep.fresh_F hD
      have hLD := n1.rep.fresh_L hD
      refine ⟨fun i k H => ∃ F φ m acc vs, k = ds.length - i ∧ i ≤ ds.length ∧ Nxt X.K F1 φ1 m2 H1 F φ m H ∧ H D = some (.lst vs) ∧ VRs X.K F φ acc vs ∧ ¬ Live φ m D ∧ F D = none ∧ acc.length ≤ i ∧ compV (own.map (·.2)) g tc fe ρ (ds.drop i) acc m = some (res, m'),
        ⟨ds.length, F1, φ1, m2, [], [], rfl, Nat.zero_le _, (Nxt.refl n1.rep).mut hD hLD hFD, upd_same, .nil, hLD, hFD, Nat.le_refl _, by rw [List.drop_zero]; exact hf⟩, ?_⟩
      rintro i k H2 ⟨F2, φ2, m3, acc, vs, rfl, hle, n2, hD2, rv2, hL2, hF2, hlen, hf2⟩
      have ex2 := n2.exF
      have pr2 := n2.pre
      by_cases hlt : i < ds.length
      · refine .inr ⟨it.go i H2 (ex2.trans n2.rep.ex) hlt, fun H' => ∃ F φ m acc vs, i + 1 ≤ ds.length ∧ Nxt X.K F1 φ1 m2 H1 F φ m H' ∧ H' D = some (.lst vs) ∧ VRs X.K F φ acc vs ∧ ¬ Live φ m D ∧ F D = none ∧ acc.length ≤ i + 1 ∧ compV (own.map (·.2)) g tc fe ρ (ds.drop (i + 1)) acc m = some (res, m'),
          fun H' ⟨F', φ', m'', acc', vs', a1, a2⟩ => ⟨ds.length - (i + 1), by omega, F', φ', m'', acc', vs', rfl, a1, a2⟩, fun x H3 hy s0 H0 C cl fp => ?_⟩
        obtain ⟨F3, n3, r3⟩ := it.yld i F2 φ2 m3 H2 x H3 ds[i] n2.rep ex2 pr2 (List.getElem?_eq_getElem hlt) hy
        obtain ⟨hD3, hL3, hF3⟩ := n3.keep D _ hD2 hL2
        have n13 := n2.trans n3
        rw [List.drop_eq_getElem_cons hlt] at hf2
        unfold compV at hf2
        split at hf2
        · rename_i ρ4 m4 e4
          have er3 := (er1.mono n13.exF n13.pre).wipe (own.map (·.2))
          refine (hg s0 H0 C cl fp).run n3.rep er3 r3 e4 _ fun F4 φ4 σ4 H4 n4 er4 bt => ⟨wipe_but hws bt, fun s0 H0 C cl fp => ?_⟩
          obtain ⟨hD4, hL4, hF4⟩ := n4.keep D _ hD3 hL3
          have n14 := n13.trans n4
          split at hf2
          · rename_i m5 e5
            refine (ht s0 H0 C cl fp).run n4.rep er4 e5 _ fun F5 φ5 H5 n5 => ?_
            obtain ⟨hD5, hL5, hF5⟩ := n5.keep D _ hD4 hL4
            have n15 := n14.trans n5
            rw [if_pos rfl]
            intro s0 H0 C cl fp
            split at hf2
            · rename_i y m6 e6
              refine (he s0 H0 C cl fp).run n5.rep (er4.mono n5.exF n5.pre) e6 _ fun F6 φ6 vy H6 n6 r6 => ?_
              obtain ⟨hD6, hL6, hF6⟩ := n6.keep D _ hD5 hL5
              have n16 := n15.trans n6
              have n26 := ((n3.trans n4).trans n5).trans n6
              have rv6 := rv2.mono n26.exF n26.pre
              have hF6' : F6 D = none := by rw [hF6, hF5, hF4, hF3, hF2]
              refine ⟨vs, hD6, ?_, F6, φ6, m6, acc ++ [y], vs ++ [vy], hlt, n16.mut hD hL6 hF6', upd_same, rv6.app (.cons r6 .nil), hL6, hF6', by rw [List.length_append, List.length_cons, List.length_nil]; omega, hf2⟩
              rw [← rv2.len]
              show acc.length < 16777216
              omega
            · cases hf2
          · rename_i m5 e5
            refine (ht s0 H0 C cl fp).run n4.rep er4 e5 _ fun F5 φ5 H5 n5 => ?_
            obtain ⟨hD5, hL5, hF5⟩ := n5.keep D _ hD4 hL4
            have n15 := n14.trans n5
            have n25 := (n3.trans n4).trans n5
            rw [if_neg Bool.false_ne_true]
            exact ⟨F5, φ5, m5, acc, vs, hlt, n15, hD5, rv2.mono n25.exF n25.pre, hL5, by rw [hF5, hF4, hF3, hF2], by omega, hf2⟩
          · cases hf2
        · cases hf2
      · have hi' : i = ds.length := by omega
        subst hi'
        rw [List.drop_length] at hf2
        cases hf2
        exact .inl ⟨it.stop _ H2 (ex2.trans n2.rep.ex) (Nat.le_refl _), q _ _ _ _ D _ _ _ n1 hD n2 ⟨vs, hD2, rv2, hL2, hF2⟩⟩
    · cases hf
  · cases hf
theorem j_compC (own : List (Str × Nat)) {scope : Scope} (hc : X.calm = true) (hN : X.N.Nodup) (hi : JI X tg iter fi) (hok : BlkOk X.N X.env.scope scope own)
    (hg : ∀ (s : Shared) (H : Hp) (C : Addr) (cl : List (Str × Addr)) (fp : List Addr), JG (X.blk s H scope (compEnvC scope cl C X.env) fp) tg g ws)
    (ht : ∀ (s : Shared) (H : Hp) (C : Addr) (cl : List (Str × Addr)) (fp : List Addr), JC (X.blk s H scope (compEnvC scope cl C X.env) fp) ifs tc)
    (he : ∀ (s : Shared) (H : Hp) (C : Addr) (cl : List (Str × Addr)) (fp : List Addr), JE (X.blk s H scope (compEnvC scope cl C X.env) fp) elt fe)
    (hws : ∀ i ∈ ws, i ∈ own.map (·.2)) (hs : ∀ x, foldedSetIterable iter X.env x = pure x := by intro _; rfl) :
    JE X (.ListComp elt [⟨tg, iter, ifs, 0⟩] scope pos) (eCompC (own.map (·.2)) fi g tc fe) := ⟨fun {F φ m H ρ σ d m'} rp er hf Q q => by
  unfold eCompC eCel at hf
  split at hf
  · rename_i res m1 h1
    cases hf
    refine we_of (pe_lc (g := gB X scope tg) (tt := tB2 X scope ifs) (te := eB X scope elt) hc hN pi_w hok
      (fun s0 H0 C cl fp => ⟨fun pins s σ H v u Q I r h => h s0 H0 C cl fp pins s u I r⟩) (fun s0 H0 C cl fp => ⟨fun pins s σ H Q I h => h s0 H0 C cl fp pins s I⟩)
      (fun s0 H0 C cl fp => ⟨fun pins s σ H Q I h => h s0 H0 C cl fp pins s I⟩) hs) (comp_readG own hi hg ht he hws rp er h1 Q fun F' φ' H0 H' D F0 φ0 m0 n1 hD n2 b => ?_)
    obtain ⟨vs, b1, b2, b3, b4⟩ := b
    have n3 := n2.adopt hD b1 b3 b4 b2
    exact q _ _ _ _ (n1.trans n3) (.cell (adopt_at n2.rep))
  · cases hf⟩
end
end VI
end
section
namespace VI
open PySem PySem.Spec PyProof.Rows L2
section
variable {X : Cx} {elt tg iter tg1 iter1 : Expr} {pos : Pos} {fe : EF} {fi fi1 : AF} {g g1 : GF} {ws ws1 : List Nat} {tc : TF}
set_option maxHeartbeats 1000000 in
theorem comp2_readG (own : List (Str × Nat)) (own1 : List Nat) {scope : Scope} (hi : JI X tg iter fi)
    (hg : ∀ (s : Shared) (H : Hp) (C : Addr) (cl : List (Str × Addr)) (fp : List Addr), JG (X.blk s H scope (compEnvC scope cl C X.env) fp) tg g ws)
    (hi1 : ∀ (s : Shared) (H : Hp) (C : Addr) (cl : List (Str × Addr)) (fp : List Addr), JI (X.blk s H scope (compEnvC scope cl C X.env) fp) tg1 iter1 fi1)
    (hg1 : ∀ (s : Shared) (H : Hp) (C : Addr) (cl : List (Str × Addr)) (fp : List Addr), JG (X.blk s H scope (compEnvC scope cl C X.env) fp) tg1 g1 ws1)
    (he : ∀ (s : Shared) (H : Hp) (C : Addr) (cl : List (Str × Addr)) (fp : List Addr), JE (X.blk s H scope (compEnvC scope cl C X.env) fp) elt fe)
    (hws : ∀ i ∈ ws, i ∈ own.map (·.2)) (hws1 : ∀ i ∈ ws1, i ∈ own1)
    {F φ m H ρ σ res m'} (rp : Rep X.K F φ m H) (er : EnvR X.K F φ ρ σ) (hf : aComp2 (own.map (·.2)) own1 fi g fi1 g1 fe ρ m = some (res, m')) (Q : VK)
    (q : ∀ F' φ' H0 H' D, ∀ F0 φ0 m0, Nxt X.K F φ m H F0 φ0 m0 H0 → H0 D = none → Nxt X.K F0 φ0 m0 H0 F' φ' m' H' → Beside X.K F' φ' m' H' D res → Q (.ref D) H') :
    tLc2 (WI X tg iter) (gB X scope tg) (tB2 X scope []) (iB X scope tg1 iter1) (gB X scope tg1) (tB2 X scope []) (eB X scope elt) (own.map (·.2)) own1 σ H Q := by
  unfold aComp2 at hf
  split at hf
  · rename_i ds m2 h2
    split at hf
    · rename_i res0 m9 h1
      split at hf
      · rename_i hsz
        cases hf
        refine hi.run rp er h2 _ fun F1 φ1 J H1 n1 it D hD => ?_
        have er1 := er.mono n1.exF n1.pre
        have hFD := n1.rep.fresh_F hD
        have hLD := n1.rep.fresh_L hD
        refine ⟨fun i k H => ∃ F φ m acc vs, k = ds.length - i ∧ i ≤ ds.length ∧ Nxt X.K F1 φ1 m2 H1 F φ m H ∧ H D = some (.lst vs) ∧ VRs X.K F φ acc vs ∧ ¬ Live φ m D ∧ F D = none ∧ comp2V (own.map (·.2)) own1 g fi1 g1 fe ρ (ds.drop i) acc m = some (res, m'),
          ⟨ds.length, F1, φ1, m2, [], [], rfl, Nat.zero_le _, (Nxt.refl n1.rep).mut hD hLD hFD, upd_same, .nil, hLD, hFD, by rw [List.drop_zero]; exact h1⟩, ?_⟩
        rintro i k H2 ⟨F2, φ2, m3, acc, vs, rfl, hle, n2, hD2, rv2, hL2, hF2, hf2⟩
        have ex2 := n2.exF
        have pr2 := n2.pre
        by_cases hlt : i < ds.length
        · refine .inr ⟨it.go i H2 (ex2.trans n2.rep.ex) hlt, fun H' => ∃ F φ m acc vs, i + 1 ≤ ds.length ∧ Nxt X.K F1 φ1 m2 H1 F φ m H' ∧ H' D = some (.lst vs) ∧ VRs X.K F φ acc vs ∧ ¬ Live φ m D ∧ F D = none ∧ comp2V (own.map (·.2)) own1 g fi1 g1 fe ρ (ds.drop (i + 1)) acc m = some (res, m'),
            fun H' ⟨F', φ', m'', acc', vs', a1, a2⟩ => ⟨ds.length - (i + 1), by omega, F', φ', m'', acc', vs', rfl, a1, a2⟩, fun x H3 hy s0 H0 C cl fp => ?_⟩
          obtain ⟨F3, n3, r3⟩ := it.yld i F2 φ2 m3 H2 x H3 ds[i] n2.rep ex2 pr2 (List.getElem?_eq_getElem hlt) hy
          obtain ⟨hD3, hL3, hF3⟩ := n3.keep D _ hD2 hL2
          have n13 := n2.trans n3
          rw [List.drop_eq_getElem_cons hlt] at hf2
          unfold comp2V at hf2
          split at hf2
          · rename_i ρ4 m4 e4
            have er3 := (er1.mono n13.exF n13.pre).wipe (own.map (·.2))
            refine (hg s0 H0 C cl fp).run n3.rep er3 r3 e4 _ fun F4 φ4 σ4 H4 n4 er4 bt => ⟨wipe_but hws bt, fun s0 H0 C cl fp => ?_⟩
            obtain ⟨hD4, hL4, hF4⟩ := n4.keep D _ hD3 hL3
            have n14 := n13.trans n4
            refine (jc_nil (X := X.blk s0 H0 scope (compEnvC scope cl C X.env) fp)).run n4.rep er4 (b := true) (m' := m4) rfl _ fun F5 φ5 H5 n5 => ?_
            obtain ⟨hD5, hL5, hF5⟩ := n5.keep D _ hD4 hL4
            have n15 := n14.trans n5
            have er5 := er4.mono n5.exF n5.pre
            rw [if_pos rfl]
            intro s0 H0 C cl fp
            split at hf2
            · rename_i ds1 m6 e6
              split at hf2
              · rename_i acc1 m7 e7
                refine (hi1 s0 H0 C cl fp).run n5.rep er5 e6 _ fun F6 φ6 J1 H6 n6 it1 => ?_
                obtain ⟨hD6, hL6, hF6⟩ := n6.keep D _ hD5 hL5
                have n16 := n15.trans n6
                have er6 := er5.mono n6.exF n6.pre
                have n26 := ((n3.trans n4).trans n5).trans n6
                have rv6 := rv2.mono n26.exF n26.pre
                have hF6' : F6 D = none := by rw [hF6, hF5, hF4, hF3, hF2]
                have hgr := comp2V_grow _ _ _ _ _ hf2
                refine ⟨fun j k H => ∃ F φ m acc vs, k = ds1.length - j ∧ j ≤ ds1.length ∧ Nxt X.K F1 φ1 m2 H1 F φ m H ∧ Evl.Ex F6 F ∧ Pre φ6 φ ∧ H D = some (.lst vs) ∧ VRs X.K F φ acc vs ∧ ¬ Live φ m D ∧ F D = none ∧ compV own1 g1 tYes fe ρ4 (ds1.drop j) acc m = some (acc1, m7),
                  ⟨ds1.length, F6, φ6, m6, acc, vs, rfl, Nat.zero_le _, n16, Evl.Ex.refl _, Pre.refl _, hD6, rv6, hL6, hF6', by rw [List.drop_zero]; exact e7⟩, ?_⟩
                rintro j k H7 ⟨F7, φ7, m8, acc7, vs7, rfl, hle7, n7, ex7, pr7, hD7, rv7, hL7, hF7, hf7⟩
                by_cases hlt7 : j < ds1.length
                · refine .inr ⟨it1.go j H7 (ex7.trans n7.rep.ex) hlt7, fun H' => ∃ F φ m acc vs, j + 1 ≤ ds1.length ∧ Nxt X.K F1 φ1 m2 H1 F φ m H' ∧ Evl.Ex F6 F ∧ Pre φ6 φ ∧ H' D = some (.lst vs) ∧ VRs X.K F φ acc vs ∧ ¬ Live φ m D ∧ F D = none ∧ compV own1 g1 tYes fe ρ4 (ds1.drop (j + 1)) acc m = some (acc1, m7),
                    fun H' ⟨F', φ', m'', acc', vs', a1, a2⟩ => ⟨ds1.length - (j + 1), by omega, F', φ', m'', acc', vs', rfl, a1, a2⟩, fun x H8 hy s0 H0 C cl fp => ?_⟩
                  obtain ⟨F8, n8, r8⟩ := it1.yld j F7 φ7 m8 H7 x H8 ds1[j] n7.rep ex7 pr7 (List.getElem?_eq_getElem hlt7) hy
                  obtain ⟨hD8, hL8, hF8⟩ := n8.keep D _ hD7 hL7
                  have n18 := n7.trans n8
                  rw [List.drop_eq_getElem_cons hlt7] at hf7
                  unfold compV at hf7
                  split at hf7
                  · rename_i ρ10 m10 e10
                    have er8 := ((er6.mono ex7 pr7).mono n8.exF n8.pre).wipe own1
                    refine (hg1 s0 H0 C cl fp).run n8.rep er8 r8 e10 _ fun F9 φ9 σ9 H9 n9 er9 bt9 => ⟨wipe_but hws1 bt9, fun s0 H0 C cl fp => ?_⟩
                    obtain ⟨hD9, hL9, hF9⟩ := n9.keep D _ hD8 hL8
                    refine (jc_nil (X := X.blk s0 H0 scope (compEnvC scope cl C X.env) fp)).run n9.rep er9 (b := true) (m' := m10) rfl _ fun F10 φ10 H10 n10 => ?_
                    obtain ⟨hD10, hL10, hF10⟩ := n10.keep D _ hD9 hL9
                    rw [if_pos rfl]
                    intro s0 H0 C cl fp
                    have hyes : tYes ρ10 m10 = some (true, m10) := rfl
                    rw [hyes] at hf7
                    dsimp only at hf7
                    split at hf7
                    · rename_i y m11 e11
                      refine (he s0 H0 C cl fp).run n10.rep (er9.mono n10.exF n10.pre) e11 _ fun F11 φ11 vy H11 n11 r11 => ?_
                      obtain ⟨hD11, hL11, hF11⟩ := n11.keep D _ hD10 hL10
                      have n811 := ((n8.trans n9).trans n10).trans n11
                      have n111 := n7.trans n811
                      have rv11 := rv7.mono n811.exF n811.pre
                      have hF11' : F11 D = none := by rw [hF11, hF10, hF9, hF8, hF7]
                      have hgr2 := compV_grow _ _ _ _ _ hf7
                      rw [List.length_append, List.length_cons, List.length_nil] at hgr2
                      refine ⟨vs7, hD11, ?_, F11, φ11, m11, acc7 ++ [y], vs7 ++ [vy], hlt7, n111.mut hD hL11 hF11', ex7.trans n811.exF, pr7.trans n811.pre, upd_same, rv11.app (.cons r11 .nil), hL11, hF11', hf7⟩
                      rw [← rv7.len]
                      show acc7.length < 16777216
                      omega
                    · cases hf7
                  · cases hf7
                · have hj : j = ds1.length := by omega
                  subst hj
                  rw [List.drop_length] at hf7
                  cases hf7
                  exact .inl ⟨it1.stop _ H7 (ex7.trans n7.rep.ex) (Nat.le_refl _), F7, φ7, _, _, vs7, hlt, n7, hD7, rv7, hL7, hF7, hf2⟩
              · cases hf2
            · cases hf2
          · cases hf2
        · have hi' : i = ds.length := by omega
          subst hi'
          rw [List.drop_length] at hf2
          cases hf2
          exact .inl ⟨it.stop _ H2 (ex2.trans n2.rep.ex) (Nat.le_refl _), q _ _ _ _ D _ _ _ n1 hD n2 ⟨vs, hD2, rv2, hL2, hF2⟩⟩
      · cases hf
    · cases hf
  · cases hf
theorem j_comp2C (own : List (Str × Nat)) (own1 : List Nat) {scope : Scope} (hc : X.calm = true) (hN : X.N.Nodup) (hi : JI X tg iter fi) (hok : BlkOk X.N X.env.scope scope own)
    (hg : ∀ (s : Shared) (H : Hp) (C : Addr) (cl : List (Str × Addr)) (fp : List Addr), JG (X.blk s H scope (compEnvC scope cl C X.env) fp) tg g ws)
    (hi1 : ∀ (s : Shared) (H : Hp) (C : Addr) (cl : List (Str × Addr)) (fp : List Addr), JI (X.blk s H scope (compEnvC scope cl C X.env) fp) tg1 iter1 fi1)
    (hg1 : ∀ (s : Shared) (H : Hp) (C : Addr) (cl : List (Str × Addr)) (fp : List Addr), JG (X.blk s H scope (compEnvC scope cl C X.env) fp) tg1 g1 ws1)
    (he : ∀ (s : Shared) (H : Hp) (C : Addr) (cl : List (Str × Addr)) (fp : List Addr), JE (X.blk s H scope (compEnvC scope cl C X.env) fp) elt fe)
    (hws : ∀ i ∈ ws, i ∈ own.map (·.2)) (hws1 : ∀ i ∈ ws1, i ∈ own1) (hv : ∀ i ∈ own1, i ∈ own.map (·.2)) (hs : ∀ x, foldedSetIterable iter X.env x = pure x := by intro _; rfl) (hs1 : ∀ env x, foldedSetIterable iter1 env x = pure x := by intro _ _; rfl) :
    JE X (.ListComp elt [⟨tg, iter, [], 0⟩, ⟨tg1, iter1, [], 0⟩] scope pos) (eComp2C (own.map (·.2)) own1 fi g fi1 g1 fe) := ⟨fun {F φ m H ρ σ d m'} rp er hf Q q => by
  unfold eComp2C eCel at hf
  split at hf
  · rename_i res m1 h1
    cases hf
    refine we_of (pe_lc2 (g := gB X scope tg) (tt := tB2 X scope []) (wi1 := iB X scope tg1 iter1) (g1 := gB X scope tg1) (tt1 := tB2 X scope []) (te := eB X scope elt) hc hN pi_w hok hv
      (fun s0 H0 C cl fp => ⟨fun pins s σ H v u Q I r h => h s0 H0 C cl fp pins s u I r⟩) (fun s0 H0 C cl fp => ⟨fun pins s σ H Q I h => h s0 H0 C cl fp pins s I⟩)
      (fun s0 H0 C cl fp => ⟨fun pins s σ H R I h => h s0 H0 C cl fp pins s I⟩)
      (fun s0 H0 C cl fp => ⟨fun pins s σ H v u Q I r h => h s0 H0 C cl fp pins s u I r⟩) (fun s0 H0 C cl fp => ⟨fun pins s σ H Q I h => h s0 H0 C cl fp pins s I⟩)
      (fun s0 H0 C cl fp => ⟨fun pins s σ H Q I h => h s0 H0 C cl fp pins s I⟩) hs hs1) (comp2_readG own own1 hi hg hi1 hg1 he hws hws1 rp er h1 Q fun F' φ' H0 H' D F0 φ0 m0 n1 hD n2 b => ?_)
    obtain ⟨vs, b1, b2, b3, b4⟩ := b
    have n3 := n2.adopt hD b1 b3 b4 b2
    exact q _ _ _ _ (n1.trans n3) (.cell (adopt_at n2.rep))
  · cases hf⟩
theorem j_comp2 (own : List (Str × Nat)) (own1 : List Nat) {scope : Scope} (hc : X.calm = true) (hN : X.N.Nodup) (hi : JI X tg iter fi) (hok : BlkOk X.N X.env.scope scope own)
    (hg : ∀ (s : Shared) (H : Hp) (C : Addr) (cl : List (Str × Addr)) (fp : List Addr), JG (X.blk s H scope (compEnvC scope cl C X.env) fp) tg g ws)
    (hi1 : ∀ (s : Shared) (H : Hp) (C : Addr) (cl : List (Str × Addr)) (fp : List Addr), JI (X.blk s H scope (compEnvC scope cl C X.env) fp) tg1 iter1 fi1)
    (hg1 : ∀ (s : Shared) (H : Hp) (C : Addr) (cl : List (Str × Addr)) (fp : List Addr), JG (X.blk s H scope (compEnvC scope cl C X.env) fp) tg1 g1 ws1)
    (he : ∀ (s : Shared) (H : Hp) (C : Addr) (cl : List (Str × Addr)) (fp : List Addr), JE (X.blk s H scope (compEnvC scope cl C X.env) fp) elt fe)
    (hws : ∀ i ∈ ws, i ∈ own.map (·.2)) (hws1 : ∀ i ∈ ws1, i ∈ own1) (hv : ∀ i ∈ own1, i ∈ own.map (·.2)) (hs : ∀ x, foldedSetIterable iter X.env x = pure x := by intro _; rfl) (hs1 : ∀ env x, foldedSetIterable iter1 env x = pure x := by intro _ _; rfl) :
    JE X (.ListComp elt [⟨tg, iter, [], 0⟩, ⟨tg1, iter1, [], 0⟩] scope pos) (eComp2 (own.map (·.2)) own1 fi g fi1 g1 fe) := ⟨fun {F φ m H ρ σ d m'} rp er hf Q q => by
  unfold eComp2 eLst at hf
  split at hf
  · rename_i res m1 h1
    cases hf
    refine we_of (pe_lc2 (g := gB X scope tg) (tt := tB2 X scope []) (wi1 := iB X scope tg1 iter1) (g1 := gB X scope tg1) (tt1 := tB2 X scope []) (te := eB X scope elt) hc hN pi_w hok hv
      (fun s0 H0 C cl fp => ⟨fun pins s σ H v u Q I r h => h s0 H0 C cl fp pins s u I r⟩) (fun s0 H0 C cl fp => ⟨fun pins s σ H Q I h => h s0 H0 C cl fp pins s I⟩)
      (fun s0 H0 C cl fp => ⟨fun pins s σ H R I h => h s0 H0 C cl fp pins s I⟩)
      (fun s0 H0 C cl fp => ⟨fun pins s σ H v u Q I r h => h s0 H0 C cl fp pins s u I r⟩) (fun s0 H0 C cl fp => ⟨fun pins s σ H Q I h => h s0 H0 C cl fp pins s I⟩)
      (fun s0 H0 C cl fp => ⟨fun pins s σ H Q I h => h s0 H0 C cl fp pins s I⟩) hs hs1) (comp2_readG own own1 hi hg hi1 hg1 he hws hws1 rp er h1 Q fun F' φ' H0 H' D F0 φ0 m0 n1 hD n2 b => ?_)
    obtain ⟨vs, b1, b2, b3, b4⟩ := b
    have n3 := n2.settle hD b1 b3 b4
    exact q _ _ _ _ (n1.trans n3) (.lst upd_same (b2.mono (Evl.Ex.new b4) (Pre.refl _)))
  · cases hf⟩
end
end VI
end
section
namespace VI
open PySem PySem.Spec PyProof.Rows L2
/-! ### where a token is out: walks, methods -/
def WIT (X : Cx) (tg iter : Expr) : TI := fun σ H R => ∀ pins s, 1 ≤ s.toks → Inv X pins σ H s → wpAny (model X.prog X.w) X.A (eval iter X.env) (fun v s1 => wpAny (model X.prog X.w) X.A (pyIter v) (PIE X pins σ tg R) X.xe s1) X.xe s
structure JIT (X : Cx) (tg iter : Expr) (f : AF) : Prop where
  run : ∀ {F φ m H ρ σ ds m'}, Rep X.K F φ m H → EnvR X.K F φ ρ σ → f ρ m = some (ds, m') → ∀ R : It → Hp → Prop, (∀ F' φ' J H', Nxt X.K F φ m H F' φ' m' H' → ItD X.K F' φ' J ds → R J H') → WIT X tg iter σ H R
theorem wit_of {X : Cx} {tg e : Expr} {t : TI} (h : PIT X tg e t) {σ H Q} (q : t σ H Q) : WIT X tg e σ H Q := fun pins s k I => h pins s σ H Q k I q
def WAT (X : Cx) (es : List Expr) : TA := fun σ H Q => ∀ pos pins s, 1 ≤ s.toks → Inv X pins σ H s → wpAny (model X.prog X.w) X.A (spliced (backTo pos (starEach es X.env))) (AP X pins σ Q) X.xe s
theorem pat_w {X : Cx} {es : List Expr} : PAT X es (WAT X es) := fun pos pins s σ H Q k I h => h pos pins s k I
section
variable {X : Cx} {a b c e o tg iter : Expr} {es : List Expr} {st : Stmt} {sts : List Stmt} {pos p apos cpos : Pos} {fa fb fe fo : EF} {fi fr : AF} {g : GF} {ws : List Nat} {f1 f2 : BF} {tc : TF} {name : Str}
theorem jst_forT (hp : PassesOwn (model X.prog X.w) X.A X.env X.xe) (hc : X.calm = true) (hi : JIT X tg iter fi) (hg : JG X tg g ws) (hb : JBT X sts f1) (hs : ∀ x, foldedSetIterable iter X.env x = pure x := by intro _; rfl) :
    JST X (.For tg iter sts [] pos) (bFor fi g f1) := ⟨fun {F φ m H ρ σ r m'} rp er hf D q pins s k I => by
  unfold bFor at hf
  split at hf
  · rename_i ds m1 h1
    have w := hi.run rp er h1 (fun J H1 => ∃ F1 φ1, Nxt X.K F φ m H F1 φ1 m1 H1 ∧ ItD X.K F1 φ1 J ds) (fun F1 φ1 J H1 n it => ⟨F1, φ1, n, it⟩) pins s k I
    refine wpAny_For (thnT w fun v s1 ⟨k1, w1⟩ => thnT w1 fun itv s2 ⟨k2, w2⟩ => ?_) hs
    obtain ⟨it, fp, tn, J, H2, e, I2, T, t2, f2, F1, φ1, n1, itd⟩ := w2
    subst e
    refine codeAny_forLoop_any (fun n s' => 1 ≤ s'.toks ∧ ∃ i F2 φ2 m2 ρ2 σ2 H', n + i = ds.length ∧ Inv X pins σ2 H' s' ∧ tn i s'.heap ∧ (∀ b ∈ fp, H' b = none) ∧ Rep X.K F2 φ2 m2 H' ∧ Evl.Ex F1 F2 ∧ Pre φ1 φ2 ∧ EnvR X.K F2 φ2 ρ2 σ2 ∧
      forV g f1 (ds.drop i) ρ2 m2 = some (r, m') ∧ FlOk X.K F2 φ2 m2 H' m' D r) ?_ ds.length ⟨by omega, 0, F1, φ1, m1, ρ, σ, H2, by omega, I2, t2, fun b hb => (f2 b hb).1, n1.rep, Evl.Ex.refl _, Pre.refl _, er.mono n1.exF n1.pre, hf, q.after n1⟩
    rintro n s3 ⟨k3, i, F2, φ2, m2, ρ2, σ2, H3, hn, I3, t3, fr, rp2, ex2, pr2, er2, hf2, q2⟩
    have fok : ∀ {G : Hp}, (∀ b ∈ fp, G b = none) → ∀ b ∈ fp, FpOk X pins G b := fun z b hb => ⟨z b hb, (f2 b hb).2⟩
    by_cases hlt : i < ds.length
    · refine wpAny_passesOwn hp (thnT (T.item X rfl rfl rfl hc i pins s3 σ2 H3 X.xe I3 (fok fr) t3 (itd.go i H3 (ex2.trans rp2.ex) hlt)) fun o s4 ⟨k4, u, ho, w4⟩ => ?_)
      subst ho
      refine wpAny_passesOwn hp (thnT w4 fun _ s5 ⟨k5, x, H5, I5, r5, y5, t5, fr5⟩ => ?_)
      obtain ⟨F5, n5, rx⟩ := itd.yld i F2 φ2 m2 H3 x H5 ds[i] rp2 ex2 pr2 (List.getElem?_eq_getElem hlt) y5
      have J5 := I5.pinned (fok fr5) (T.obj _ _ t5)
      rw [List.drop_eq_getElem_cons hlt] at hf2
      unfold forV at hf2
      split at hf2
      · rename_i ρ4 m4 e4
        have wg := hg.run n5.rep (er2.mono n5.exF n5.pre) rx e4 (fun σ4 H4 => ∃ F4 φ4, Nxt X.K F5 φ2 m2 H5 F4 φ4 m4 H4 ∧ EnvR X.K F4 φ4 ρ4 σ4) (fun F4 φ4 σ4 H4 n4 er4 _ => ⟨F4, φ4, n4, er4⟩) _ s5 u J5 r5
        refine wpAny_passesOwn hp (thnT wg fun _ s6 ⟨k6, σ6, H6, I6, F6, φ6, n6, er6⟩ => ?_)
        have n56 := n5.trans n6
        let P : L2.St → Hp → Prop := fun σ7 H7 => ∃ F7 φ7 m7 ρ7, Nxt X.K F2 φ2 m2 H3 F7 φ7 m7 H7 ∧ EnvR X.K F7 φ7 ρ7 σ7 ∧ forV g f1 (ds.drop (i + 1)) ρ7 m7 = some (r, m')
        have fin : ∀ {f : Flow} {s7 : Shared} {σ7 : L2.St} {H7 : Hp}, s6.toks ≤ s7.toks → Inv X (pins ++ pinsAt fp s5.heap) σ7 H7 s7 → P σ7 H7 → ∃ l, l < n ∧ 1 ≤ s7.toks ∧ ∃ i F2 φ2 m2 ρ2 σ2 H', l + i = ds.length ∧ Inv X pins σ2 H' s7 ∧ tn i s7.heap ∧ (∀ b ∈ fp, H' b = none) ∧ Rep X.K F2 φ2 m2 H' ∧ Evl.Ex F1 F2 ∧ Pre φ1 φ2 ∧ EnvR X.K F2 φ2 ρ2 σ2 ∧
            forV g f1 (ds.drop i) ρ2 m2 = some (r, m') ∧ FlOk X.K F2 φ2 m2 H' m' D r := fun {f s7 σ7 H7} k7 I7 ⟨F7, φ7, m7, ρ7, n7, er7, hf7⟩ => by
          have pn : ∀ b ∈ fp, ∀ o, s5.heap.get? b = some o → s7.heap.get? b = some o ∧ H7 b = none := fun b hb o e => by
            have z := I7.pin (b, o) (List.mem_append_right _ (List.mem_append_right _ (mem_pinsAt hb e)))
            exact ⟨z.1, z.2.1⟩
          refine ⟨n - 1, by omega, by omega, i + 1, F7, φ7, m7, ρ7, σ7, H7, by omega, I7.unpinned, T.keep _ _ _ t5 fun b hb o e => (pn b hb o e).1, fun b hb => ?_, n7.rep, ex2.trans n7.exF, pr2.trans n7.pre, er7, hf7, q2.after n7⟩
          obtain ⟨o, e, _⟩ := T.obj _ _ t5 b hb
          exact (pn b hb o e).2
        have run : ∀ {r1 : Fl} {m5 : Mem}, f1 ρ4 m4 = some (r1, m5) → FlOk X.K F6 φ6 m4 H6 m5 { nx := P, ct := P, bk := D.nx, rt := D.rt } r1 → wpAny (model X.prog X.w) X.A (execs sts X.env) (fun f s7 => match f with
            | .next | .cont => ∃ l, l < n ∧ 1 ≤ s7.toks ∧ ∃ i F2 φ2 m2 ρ2 σ2 H', l + i = ds.length ∧ Inv X pins σ2 H' s7 ∧ tn i s7.heap ∧ (∀ b ∈ fp, H' b = none) ∧ Rep X.K F2 φ2 m2 H' ∧ Evl.Ex F1 F2 ∧ Pre φ1 φ2 ∧ EnvR X.K F2 φ2 ρ2 σ2 ∧ forV g f1 (ds.drop i) ρ2 m2 = some (r, m') ∧ FlOk X.K F2 φ2 m2 H' m' D r
            | .brk => SP X pins D .next s7
            | .ret v => SP X pins D (.ret v) s7) X.xe s6 := fun {r1 m5} e5 ok => by
          refine thnT (hb.run n6.rep er6 e5 _ ok _ s6 (by omega) I6) fun f s7 ⟨k7, w7⟩ => ?_
          cases f with
          | next => obtain ⟨σ7, H7, I7, z⟩ := w7; exact fin (f := .next) k7 I7 z
          | cont => obtain ⟨σ7, H7, I7, z⟩ := w7; exact fin (f := .next) k7 I7 z
          | brk => obtain ⟨σ7, H7, I7, z⟩ := w7; exact ⟨σ7, H7, I7.unpinned, z⟩
          | ret v => obtain ⟨x7, σ7, H7, I7, rv, z⟩ := w7; exact ⟨x7, σ7, H7, I7.unpinned, rv, z⟩
        refine wpAny_passesOwn hp ?_
        split at hf2
        · rename_i ρ5 m5 e5
          exact run e5 fun F7 φ7 σ7 H7 n7 er7 => ⟨F7, φ7, m5, ρ5, n56.trans n7, er7, hf2⟩
        · rename_i ρ5 m5 e5
          exact run e5 fun F7 φ7 σ7 H7 n7 er7 => ⟨F7, φ7, m5, ρ5, n56.trans n7, er7, hf2⟩
        · rename_i ρ5 m5 e5
          cases hf2
          exact run e5 fun F7 φ7 σ7 H7 n7 er7 => q2 _ _ _ _ (n56.trans n7) er7
        · rename_i d5 m5 e5
          cases hf2
          exact run e5 fun F7 φ7 v7 H7 n7 r7 => q2 _ _ _ _ (n56.trans n7) r7
        · cases hf2
      · cases hf2
    · refine wpAny_passesOwn hp (thn (T.done X rfl rfl rfl hc i pins s3 σ2 H3 X.xe I3 (fok fr) t3 (itd.stop i H3 (ex2.trans rp2.ex) (by omega))) fun o s4 ⟨ho, I4⟩ => ?_)
      subst ho
      have hi' : i = ds.length := by omega
      subst hi'
      rw [List.drop_length] at hf2
      cases hf2
      exact wpAny_execs_nil ⟨σ2, H3, I4, q2 _ _ _ _ (Nxt.refl rp2) er2⟩
  · cases hf⟩

theorem JIT.of (h : JI X tg iter fi) : JIT X tg iter fi := ⟨fun rp er hf R q pins s _ I => h.run rp er hf R q pins s I⟩
theorem pi_enumT {e : Expr} {ta : TA} {p pos tpos : Pos} {elts : List Expr} {kk : Nat} (hg : Gl X "enumerate") (hm : X.mg "enumerate" = none) (ha : PAT X [e] ta) (hs : starEach [e] X.env = [(false, eval e X.env)] := by rfl) :
    PIT X (.Tuple elts kk tpos) (.Call (.Name "enumerate" p) [e] [] pos) (iEnum X.K ta) := by
  intro pins s σ H R k I h
  refine Call_ (ld_blt I hg hm boot_enumerate (PyProof.Rows.callWith_type1 (thn (ha pos pins s σ H _ k I h) fun us s1 ⟨vs, H1, I1, r1, q1⟩ => ?_) hs rfl))
  obtain ⟨a, xs, ex, hq, q⟩ := q1
  subst ex
  cases r1 with
  | cons r rr =>
    cases rr
    cases r
    obtain ⟨its, rv, p', hz⟩ := I1.list hq
    refine call_enumerate_list p'.isList fun h' he hit hsz hk => wpAny_pyIter_enum he ?_
    have I2 : Inv X pins σ H1 { s1 with heap := h' } := I1.kept (t' := s1.toks) hk
    refine ⟨s1.heap.objs.size + 1, [s1.heap.objs.size + 1, s1.heap.objs.size], _, _, H1, rfl, I2, turn_enum a (s1.heap.objs.size + 1) s1.heap.objs.size, ⟨⟨.none, he⟩, hit, Nat.succ_ne_self _⟩, fun b hb => ?_, q⟩
    have e' : b = s1.heap.objs.size + 1 ∨ b = s1.heap.objs.size := by simpa using hb
    have hle : s1.heap.objs.size ≤ b := by
      rcases e' with z | z
      · rw [z]; exact Nat.le_add_right _ _
      · rw [z]; exact Nat.le_refl _
    exact I1.fpOk hle (I1.hok.fresh hle)
theorem jit_enum {elts : List Expr} {kk : Nat} {tpos : Pos} (h : JET X e fe) (hm : X.mg "enumerate" = none) (hg : Gl X "enumerate" := by rfl) (hs : starEach [e] X.env = [(false, eval e X.env)] := by rfl) :
    JIT X (.Tuple elts kk tpos) (.Call (.Name "enumerate" p) [e] [] pos) (aEnum fe) := ⟨fun {F φ m H ρ σ ds m'} rp er hf R q => by
  unfold aEnum at hf
  split at hf
  · rename_i ds m1 h1
    cases hf
    refine wit_of (pi_enumT hg hm (pat_cons pet_w pat_nil hs) hs) ?_
    refine h.run rp er h1 _ fun F1 φ1 v H1 n1 r1 => ?_
    cases r1 with
    | @lst a _ ws hq rv => exact ⟨a, ws, rfl, SqL.of (n1.rep.ex _ _ hq), q _ _ _ _ n1 (it_enum (SqL.of hq) rv)⟩
  · cases hf⟩
theorem pet_bm {T id : String} {r : V → List V → Hp → VK → Prop} {to : TE} {t : TA} (pa : PlainAttrs T) (slot : Slot T name id) (hty : typeOf (.builtin id) = pure (.type "method_descriptor")) (hm : MtR X id r) (ho : PET X o to) (ha : PA X (e :: es) t)
    (hbase : attributeBase o name X.env (eval o X.env) = eval o X.env := by rfl)
    (hfew : ((backTo cpos (starEach (e :: es) X.env)).all (fun x => !x.1) && (backToKw cpos (keywordEach [] X.env)).all (fun x => x.1.isSome)
      && decide ((e :: es).length + ([] : List Keyword).length + (if ([] : List Keyword).isEmpty then 0 else 1) < 30)) = true := by rfl)
    (hline : (apos.endLine == cpos.line) = true := by rfl) (hs : starEach (e :: es) X.env = (false, eval e X.env) :: starEach es X.env := by rfl) (hplain : (backTo cpos (starEach es X.env)).any (·.1) = false := by rfl) :
    PET X (.Call (.Attribute o name apos) (e :: es) [] cpos) (tBM X.K T r to t) := by
  intro pins s σ H Q k I h
  refine wpAny_Call_method_late hbase hfew hline rfl (thn (ho pins s σ H _ k I h) fun v s1 ⟨x, H1, I1, r1, ty, q1⟩ => ?_)
  obtain ⟨h1, h2⟩ := tyV_is I1 r1 ty
  refine ⟨T, id, pa, slot, hty, h1, h2, ?_⟩
  have hA := ha.run cpos pins s1 σ H1 _ I1 q1
  rw [hs] at hA ⊢
  refine Calls.callWith_builtin (by show (false || (backTo cpos (starEach es X.env)).any (·.1)) = false; rw [hplain] <;> rfl) (Calls.evalArgs_plain ?_)
  exact thn hA fun us s2 ⟨vs, H2, I2, r2, q2⟩ => hm pins s2 σ H2 x vs v us Q I2 r1 r2 q2
theorem jet_mS {id : String} {r : List Nat → Mem → List D → Option D} (pa : PlainAttrs "str") (slot : Slot "str" name id) (hty : typeOf (.builtin id) = pure (.type "method_descriptor")) (hm : MS X id r) (ho : JET X o fo) (ha : JA X (e :: es) fr)
    (hbase : attributeBase o name X.env (eval o X.env) = eval o X.env := by rfl)
    (hfew : ((backTo cpos (starEach (e :: es) X.env)).all (fun x => !x.1) && (backToKw cpos (keywordEach [] X.env)).all (fun x => x.1.isSome)
      && decide ((e :: es).length + ([] : List Keyword).length + (if ([] : List Keyword).isEmpty then 0 else 1) < 30)) = true := by rfl)
    (hline : (apos.endLine == cpos.line) = true := by rfl) (hs : starEach (e :: es) X.env = (false, eval e X.env) :: starEach es X.env := by rfl) (hplain : (backTo cpos (starEach es X.env)).any (·.1) = false := by rfl) :
    JET X (.Call (.Attribute o name apos) (e :: es) [] cpos) (eMS r fo fr) := ⟨fun {F φ m H ρ σ d m'} rp er hf Q q => by
  refine wet_of (pet_bm pa slot hty mtr_w pet_w pa_w hbase hfew hline hs hplain) ?_
  unfold eMS at hf
  split at hf
  · rename_i s m1 h1
    split at hf
    · rename_i ds m2 h2
      split at hf
      · rename_i d' h3
        cases hf
        refine ho.run rp er h1 _ fun F1 φ1 v H1 n1 r1 => ?_
        cases r1
        refine ⟨rfl, ha.run n1.rep (er.mono n1.exF n1.pre) h2 _ fun F2 φ2 vs H2 n2 r2 => ?_⟩
        exact hm n2.rep r2 h3 Q fun F' φ' v H' n r => q _ _ _ _ ((n1.trans n2).trans n) r
      · cases hf
    · cases hf
  · cases hf⟩
/-- a text again and again -/
def oMulS : Mem → D → D → Option D
  | _, .str s, .int j => if -1000 < j ∧ j < 1000 ∧ s.length ≤ 1000 then some (.str (List.replicate j.toNat s).flatten) else none
  | _, _, _ => none
theorem od_mulS : OD X (binaryOp .Mult) oMulS := by
  intro F φ m H x y d vx vy rp rx ry h Q q
  unfold oMulS at h
  split at h
  · split at h
    · rename_i s j hc
      obtain ⟨h1, h2, h3⟩ := hc
      cases h; cases rx; cases ry
      refine ⟨fun x y H Q => x = .str (S s) ∧ y = .int j ∧ Q (.str (S (List.replicate j.toNat s).flatten)) H, ?_, rfl, rfl, same rp q (.str _)⟩
      intro pins s0 σ H0 x y v u Q0 I rx ry ⟨e1, e2, q0⟩
      subst e1; subst e2
      obtain ⟨t, rfl⟩ := rx
      obtain ⟨u', rfl⟩ := ry
      refine PySem.P.mul_str ?_ ?_ ?_ ?_
      · rw [decide_eq_false (by omega), decide_eq_false (by omega)]; rfl
      · intro hn _
        rw [S_len]
        have : (1 : Int) * 9223372036854775807 / 1000 ≤ (2 ^ 63 - 1) / j := by
          rw [Int.le_ediv_iff_mul_le (by omega)]
          have : (1 : Int) * 9223372036854775807 / 1000 = 9223372036854775 := by decide
          rw [this]
          have e : (2 : Int) ^ 63 - 1 = 9223372036854775807 := by decide
          rw [e]
          omega
        have e2 : (1 : Int) * 9223372036854775807 / 1000 = 9223372036854775 := by decide
        omega
      · intro hn _
        rw [S_len]
        have : s.length * j.toNat ≤ 1000 * 1000 := Nat.mul_le_mul h3 (by omega)
        have esz : sizeLine = 16777216 := by decide
        unfold Builtin.Str.tooLong
        first
          | exact decide_eq_false (by omega)
          | (simp; omega)
      · have big : (List.replicate j.toNat s).flatten.length ≤ 16777216 := by
          rw [List.length_flatten, List.map_replicate, List.sum_replicate_nat]
          have : j.toNat * s.length ≤ 1000 * 1000 := Nat.mul_le_mul (by omega) h3
          omega
        have fin : ∀ (z : Str) (tk : Tok), z.cps.toList = (List.replicate j.toNat s).flatten → ∀ st : Shared, (∃ k, st = { s0 with toks := k }) → EP X pins σ Q0 (.str z tk) st := fun z tk hz st ⟨k, hk⟩ => by
          subst hk
          have ez : z = S (List.replicate j.toNat s).flatten := by rw [← hz, S_mk]
          subst ez
          exact ⟨V.str (S (List.replicate j.toNat s).flatten), H0, I.tok k, ⟨_, rfl⟩, q0⟩
        split
        · rename_i hn
          refine ⟨by decide, fin _ _ ?_ _ ⟨_, rfl⟩⟩
          have : j.toNat = 0 := by omega
          rw [this]; rfl
        · split
          · rename_i hn h1
            simp only [Bool.or_eq_true, beq_iff_eq, S_len] at h1
            refine fin _ _ ?_ _ ⟨s0.toks, rfl⟩
            rw [S_tl]
            rcases h1 with h1 | h1
            · have : j.toNat = 1 := by omega
              rw [this]; simp
            · have : s = [] := List.eq_nil_of_length_eq_zero h1
              subst this; simp
          · refine ⟨?_, fin _ _ ?_ _ ⟨_, rfl⟩⟩
            · show _
              have : (⟨(List.replicate j.toNat (S s).cps).foldl (· ++ ·) #[]⟩ : Str).length ≤ 16777216 := by
                show Array.size _ ≤ _
                rw [← Array.length_toList, repl_fold]
                simpa [S] using big
              first
                | exact this
                | (simp [Data.fits]; exact this)
                | (show (if _ then _ else _) = none; rw [if_neg (by have := this; omega)])
            · rw [repl_fold]; simp [S]
    · cases h
  · cases h
end
end VI
end
section
namespace VI
open PySem PySem.Spec PyProof.Rows L2
section
variable {X : Cx} {a b c e f o tg i : Expr} {es : List Expr} {pos p apos cpos : Pos} {fa fb fe ff fo fi fk : EF} {fr : AF} {x name : Str}
/-! ### d[k], k not in d -/
def eDIx (fo fk : EF) : EF := fun ρ m => match fo ρ m with
  | some (.cell c, m1) => match m1[c]? with
    | some (.dct _) => match fk ρ m1 with
      | some (x, m2) => match toKey x with
        | some k => match m2[c]? with
          | some (.dct kvs) => match valD kvs k with
            | some d => some (d, m2)
            | none => none
          | _ => none
        | none => none
      | none => none
    | _ => none
  | _ => none
theorem j_dIx (hu : X.A.units + 1 < cLine) (ho : JE X o fo) (hk : JE X i fk) (hs : NoSl i := by intro _ _; rfl) : JE X (.Subscript o i pos) (eDIx fo fk) := ⟨fun {F φ m H ρ σ d m'} rp er hf Q q => by
  refine we_of (pe_dget hu pe_w pe_w hs) ?_
  unfold eDIx at hf
  split at hf
  · rename_i c m1 h1
    split at hf
    · rename_i kv0 hm0
      split at hf
      · rename_i x m2 h2
        split at hf
        · rename_i k hkk
          split at hf
          · rename_i kvs hm
            split at hf
            · rename_i d' hv
              cases hf
              refine ho.run rp er h1 _ fun F1 φ1 v H1 n1 r1 => ?_
              cases r1 with
              | @cell _ a hp =>
                refine hk.run n1.rep (er.mono n1.exF n1.pre) h2 _ fun F2 φ2 vy H2 n2 r2 => ?_
                have hp2 := n2.pre _ _ hp
                obtain ⟨_, o2, ho2, vs2, rfl, rv2⟩ := n2.rep.cell _ _ _ hm (fun e => nomatch e) hp2
                obtain ⟨q1, q2⟩ := rv2.val (k := k)
                obtain ⟨w, hw, rw'⟩ := q1 _ hv
                refine ⟨a, w, rfl, .inl ⟨vs2, k, .inl ho2, toKey_ok r2 hkk, hw.symm⟩, ?_⟩
                exact q _ _ _ _ (n1.trans n2) rw'
            · cases hf
          · cases hf
        · cases hf
      · cases hf
    · cases hf
  · cases hf⟩
def eDNotIn (fk fo : EF) : EF := fun ρ m => match fk ρ m with
  | some (x, m1) => match toKey x with
    | some k => match fo ρ m1 with
      | some (.cell c, m2) => match m2[c]? with
        | some (.dct kvs) => some (.bl (!(valD kvs k).isSome), m2)
        | _ => none
      | _ => none
    | none => none
  | none => none
theorem jt_dnotin (hu : X.A.units + 1 < cLine) (hk : JE X i fk) (ho : JE X o fo) (h1 : behindInMarks .NotIn o = false := by first | exact nobehind _ (by decide) (by decide) | rfl) : JT X (.Compare i [.NotIn] [o] pos) (tV (eDNotIn fk fo)) := ⟨fun {F φ m H ρ σ bb m'} rp er hf Q q => by
  refine wt_of (pt_cmp (pc_dnotin hu pe_w pe_w) h1) ?_
  unfold tV at hf
  split at hf
  · rename_i b' m1 h1
    cases hf
    unfold eDNotIn at h1
    split at h1
    · rename_i x m2 h2
      split at h1
      · rename_i k hkk
        split at h1
        · rename_i c m3 h3
          split at h1
          · rename_i kvs hm
            cases h1
            refine hk.run rp er h2 _ fun F1 φ1 vy H1 n1 r1 => ?_
            refine ho.run n1.rep (er.mono n1.exF n1.pre) h3 _ fun F2 φ2 v H2 n2 r2 => ?_
            cases r2 with
            | @cell _ a hp =>
              obtain ⟨_, o2, ho2, vs2, rfl, rv2⟩ := n2.rep.cell _ _ _ hm (fun e => nomatch e) hp
              obtain ⟨q1, q2⟩ := rv2.val (k := k)
              refine ⟨a, valV vs2 k, rfl, .inl ⟨vs2, k, .inl ho2, toKey_ok r1 hkk, rfl⟩, ?_⟩
              have e : (valV vs2 k).isSome = (valD kvs k).isSome := by
                cases hv : valD kvs k with
                | none => rw [q2 hv]; rfl
                | some d =>
                  obtain ⟨w, hw, _⟩ := q1 _ hv
                  rw [hw]; rfl
              rw [e]
              exact ⟨_, rfl, q _ _ _ (n1.trans n2)⟩
          · cases h1
        · cases h1
      · cases h1
    · cases h1
  · cases hf⟩
/-! ### s.startswith(t, i) -/
def sStarts3 (s : List Nat) : Mem → List D → Option D
  | _, [.str t, .int i] => some (.bl (Txt.startswith3 (S s) (S t) i))
  | _, _ => none
theorem ms_starts3 : MS X "str.startswith" sStarts3 := by
  intro F φ m H s ds d vs rp r hh Q q
  unfold sStarts3 at hh
  split at hh
  · cases hh
    cases r with
    | cons r0 rr =>
      cases rr with
      | cons r1 rr =>
        cases rr; cases r0; cases r1
        exact ⟨_, mt_startswith3, _, _, _, rfl, rfl, same rp q (.bl _)⟩
  · cases hh
/-! ### tuples of whole numbers, by order -/
def lexLeD : List Int → List Int → Bool
  | [], _ => true
  | _ :: _, [] => false
  | a :: r, b :: t => if a = b then lexLeD r t else decide (a < b)
def oLeT : Mem → D → D → Option D
  | _, .tup ds, .tup es => match toInts ds, toInts es with
    | some is, some js => if is.length = js.length then some (.bl (lexLeD is js)) else none
    | _, _ => none
  | _, _, _ => none
end
end VI
end
section
namespace VI
open PySem PySem.Spec PyProof.Rows L2
section
variable {X : Cx} {a b c e f o tg i : Expr} {es : List Expr} {pos p apos cpos npos : Pos} {fa fb fe ff fo fi fk : EF} {fr : AF} {x name : Str}
/-! ### s.strip(t), s.removeprefix(t), s.find(t, i) -/
def sStrip (s : List Nat) : Mem → List D → Option D
  | _, [.str t] => if s.length ≤ 16777216 then some (.str (Txt.stripChars (S s) (S t)).cps.toList) else none
  | _, _ => none
theorem ms_strip : MS X "str.strip" sStrip := by
  intro F φ m H s ds d vs rp r hh Q q
  unfold sStrip at hh
  split at hh
  · split at hh
    · rename_i t' hl
      cases hh
      obtain ⟨v, rfl, r0⟩ := r.one
      cases r0
      refine ⟨_, mt_stripChars, _, _, rfl, rfl, ?_, ?_⟩
      · rw [S_len]; exact hl
      · have e := S_mk (Txt.stripChars (S s) (S t'))
        rw [← e]
        exact same rp q (.str _)
    · cases hh
  · cases hh
def sRemovePrefix (s : List Nat) : Mem → List D → Option D
  | _, [.str t] => if s.length ≤ 16777216 then some (.str (Txt.removeprefix (S s) (S t)).cps.toList) else none
  | _, _ => none
theorem ms_removeprefix : MS X "str.removeprefix" sRemovePrefix := by
  intro F φ m H s ds d vs rp r hh Q q
  unfold sRemovePrefix at hh
  split at hh
  · split at hh
    · rename_i t' hl
      cases hh
      obtain ⟨v, rfl, r0⟩ := r.one
      cases r0
      refine ⟨_, mt_removeprefix, _, _, rfl, rfl, ?_, ?_⟩
      · rw [S_len]; exact hl
      · have e := S_mk (Txt.removeprefix (S s) (S t'))
        rw [← e]
        exact same rp q (.str _)
    · cases hh
  · cases hh
def sFind (s : List Nat) : Mem → List D → Option D
  | _, [.str t] => some (.int (Txt.find (S s) (S t)))
  | _, [.str t, .int i] => some (.int (Txt.find3 (S s) (S t) i))
  | _, _ => none
theorem ms_find : MS X "str.find" sFind := by
  intro F φ m H s ds d vs rp r hh Q q
  unfold sFind at hh
  split at hh
  · cases hh
    obtain ⟨v, rfl, r0⟩ := r.one
    cases r0
    exact ⟨_, mt_find, _, _, rfl, rfl, same rp q (.int _)⟩
  · cases hh
    cases r with
    | cons r0 rr =>
      cases rr with
      | cons r1 rr =>
        cases rr; cases r0; cases r1
        exact ⟨_, mt_find3, _, _, _, rfl, rfl, same rp q (.int _)⟩
  · cases hh
/-! ### int(s), str(n) -/
def bIntS : Mem → List D → Option D
  | _, [.str s] => if s.length ≤ 640 then (match PySem.intText? (S s) with | some n => some (.int n) | none => none) else none
  | _, _ => none
theorem cb_intS : CB X (.type "int") bIntS := by
  intro F φ m H ds d vs rp r h Q q
  unfold bIntS at h
  split at h
  · split at h
    · rename_i hl
      split at h
      · rename_i n hn
        cases h
        obtain ⟨v, rfl, r0⟩ := r.one
        cases r0
        exact ⟨_, call_int_str, _, _, rfl, hn, by rw [S_len]; exact hl, same rp q (.int _)⟩
      · cases h
    · cases h
  · cases h
def strI (i : Int) : List Nat := (Str.ofString (toString i)).cps.toList
def bStrI : Mem → List D → Option D
  | _, [.int i] => if i.natAbs.log2 < 1920 then some (.str (strI i)) else none
  | _, _ => none
theorem cb_strI : CB X (.type "str") bStrI := by
  intro F φ m H ds d vs rp r h Q q
  unfold bStrI at h
  split at h
  · split at h
    · rename_i i hl
      cases h
      obtain ⟨v, rfl, r0⟩ := r.one
      cases r0
      refine ⟨_, call_str_int, _, rfl, hl, ?_⟩
      have e := S_mk (Str.ofString (toString i))
      have e2 : (V.str (Str.ofString (toString i))) = V.str (S (strI i)) := by rw [strI, e]
      show Q (V.str (Str.ofString (toString i))) H
      rw [e2]
      exact same rp q (.str _)
    · cases h
  · cases h
/-! ### a dict of the module with texts as keys -/
def GDict (K : PySem.W.Frag) (w : World) (mg : Str → Option Value) (x : Str) (kvs : List (List Nat × D)) : Prop :=
  ∃ d es n, mg x = some (.ref d) ∧ KDict K w d es n ∧ ∀ z : List Nat, match kvs.lookup z with
    | some D => ∃ u v, PySem.W.nsIn K d (S z) = some (some u) ∧ RelV v u ∧ ∀ F φ, VR K F φ D v
    | none => PySem.W.nsIn K d (S z) = some none
def eIxK (kvs : List (List Nat × D)) (f : EF) : EF := fun ρ m => match f ρ m with
  | some (.str z, m1) => (match kvs.lookup z with | some d => some (d, m1) | none => none)
  | _ => none
theorem j_ixK {kvs : List (List Nat × D)} (g : GDict X.K X.w X.mg x kvs) (hb : JE X b fb) (hg : Gl X x := by rfl) (hd : (x == ("__debug__" : Str)) = false := by decide) (hs : PlainIx b := by exact fun _ _ => rfl) :
    JE X (.Subscript (.Name x npos) b pos) (eIxK kvs fb) := ⟨fun {F φ m H ρ σ d m'} rp er hf Q q => by
  obtain ⟨dd, es, n, h1, KD, hz⟩ := g
  refine we_of (pe_ix ix_kdict (pe_glob hg h1 (show RelV (.ref dd) (.ref dd) from rfl) hd) pe_w hs) ?_
  unfold eIxK at hf
  split at hf
  · rename_i z m1 hh
    split at hf
    · rename_i d0 hk
      cases hf
      refine hb.run rp er hh _ fun F1 φ1 v H1 n1 r1 => ?_
      cases r1
      have hz' := hz z
      rw [hk] at hz'
      obtain ⟨u, v, e1, e2, e3⟩ := hz'
      exact ⟨dd, S z, v, rfl, rfl, ⟨es, n, u, KD.at_, KD.lit, e1, e2⟩, q _ _ _ _ n1 (e3 _ _)⟩
    · cases hf
  · cases hf⟩
def eInK (neg : Bool) (kvs : List (List Nat × D)) (f : EF) : EF := fun ρ m => match f ρ m with
  | some (.str z, m1) => some (.bl ((kvs.lookup z).isSome != neg), m1)
  | _ => none
theorem gd_some {K : PySem.W.Frag} {dd : Addr} {kvs : List (List Nat × D)} (hz : ∀ z : List Nat, match kvs.lookup z with
    | some D => ∃ u v, PySem.W.nsIn K dd (S z) = some (some u) ∧ RelV v u ∧ ∀ F φ, VR K F φ D v
    | none => PySem.W.nsIn K dd (S z) = some none) (z : List Nat) : ∃ r, PySem.W.nsIn K dd (S z) = some r ∧ r.isSome = (kvs.lookup z).isSome := by
  have h := hz z
  split at h
  · rename_i D hk
    obtain ⟨u, v, e1, _⟩ := h
    exact ⟨_, e1, by rw [hk]; rfl⟩
  · rename_i hk
    exact ⟨_, h, by rw [hk]; rfl⟩
theorem jt_inK {kvs : List (List Nat × D)} (g : GDict X.K X.w X.mg x kvs) (hb : JE X b fb) (hg : Gl X x := by rfl) (hd : (x == ("__debug__" : Str)) = false := by decide) (hm : behindInMarks .In (.Name x npos) = false := by first | rfl | exact nomark _) :
    JT X (.Compare b [.In] [.Name x npos] pos) (tV (eInK false kvs fb)) := ⟨fun {F φ m H ρ σ bb m'} rp er hf Q q => by
  obtain ⟨dd, es, n, h1, KD, hz⟩ := g
  refine wt_of (pt_cmpR (op_in_kd KD) pe_w (pe_glob hg h1 (show RelV (.ref dd) (.ref dd) from rfl) hd) hm) ?_
  unfold tV at hf
  split at hf
  · rename_i b' m1 h2
    cases hf
    unfold eInK at h2
    split at h2
    · rename_i z m1 hh
      cases h2
      refine hb.run rp er hh _ fun F1 φ1 v H1 n1 r1 => ?_
      cases r1
      obtain ⟨r, e1, e2⟩ := gd_some hz z
      refine ⟨S z, r, rfl, rfl, e1, _, rfl, ?_⟩
      rw [e2]
      simpa using q _ _ _ n1
    · cases h2
  · cases hf⟩
theorem jt_notInK {kvs : List (List Nat × D)} (g : GDict X.K X.w X.mg x kvs) (hb : JE X b fb) (hg : Gl X x := by rfl) (hd : (x == ("__debug__" : Str)) = false := by decide) (hm : behindInMarks .NotIn (.Name x npos) = false := by first | rfl | exact nomark _) :
    JT X (.Compare b [.NotIn] [.Name x npos] pos) (tV (eInK true kvs fb)) := ⟨fun {F φ m H ρ σ bb m'} rp er hf Q q => by
  obtain ⟨dd, es, n, h1, KD, hz⟩ := g
  refine wt_of (pt_cmpR (op_notIn_kd KD) pe_w (pe_glob hg h1 (show RelV (.ref dd) (.ref dd) from rfl) hd) hm) ?_
  unfold tV at hf
  split at hf
  · rename_i b' m1 h2
    cases hf
    unfold eInK at h2
    split at h2
    · rename_i z m1 hh
      cases h2
      refine hb.run rp er hh _ fun F1 φ1 v H1 n1 r1 => ?_
      cases r1
      obtain ⟨r, e1, e2⟩ := gd_some hz z
      refine ⟨S z, r, rfl, rfl, e1, _, rfl, ?_⟩
      rw [e2]
      have q' := q _ _ _ n1
      simpa using q'
    · cases h2
  · cases hf⟩
end
end VI
end
section
namespace VI
open PySem PySem.Spec PyProof.Rows L2
/-! a dict of the top, with texts as keys: what the end must show -/
def nameOf (e : DictEntry) : Option Str := match e.key with
  | .str x _ => some x
  | _ => none
section
variable {K : PySem.W.Frag} {w : World} {h : Heap} {mg : Str → Option Value}
inductive GVs (K : PySem.W.Frag) (p : Addr) : List (List Nat × D) → List Str → Prop
  | nil : GVs K p [] []
  | cons {s : List Nat} {z : Str} {d : D} {u : Value} {r : List (List Nat × D)} {ks : List Str} : S s = z → PySem.W.nsIn K p z = some (some u) → CV K d u → GVs K p r ks → GVs K p ((s, d) :: r) (z :: ks)
theorem GVs.at_ {p : Addr} {r : List (List Nat × D)} {ks : List Str} (g : GVs K p r ks) : ∀ {z : List Nat} {d : D}, r.lookup z = some d → ∃ u, PySem.W.nsIn K p (S z) = some (some u) ∧ CV K d u := by
  induction g with
  | nil => intro z d h; cases h
  | @cons s z0 d0 u r ks e hn hc _ ih =>
    intro z d h
    rw [List.lookup_cons] at h
    by_cases hz : z = s
    · subst hz
      rw [beq_self_eq_true] at h
      cases h
      exact ⟨u, e ▸ hn, hc⟩
    · rw [beq_eq_false_iff_ne.mpr hz] at h
      exact ih h
theorem GVs.no {p : Addr} {r : List (List Nat × D)} {ks : List Str} (g : GVs K p r ks) : ∀ {z : List Nat}, r.lookup z = none → S z ∉ ks := by
  induction g with
  | nil => intro z _ h; cases h
  | @cons s z0 d0 u r ks e hn hc _ ih =>
    intro z h
    rw [List.lookup_cons] at h
    by_cases hz : z = s
    · subst hz
      rw [beq_self_eq_true] at h
      cases h
    · rw [beq_eq_false_iff_ne.mpr hz] at h
      intro hm
      rcases List.mem_cons.mp hm with h1 | h1
      · exact hz (S_inj (h1.trans e.symm))
      · exact ih h h1
theorem find_no {z : Str} : ∀ {l : List DictEntry} {ks : List Str}, l.map nameOf = ks.map some → z ∉ ks → l.find? (·.key.isStr z) = none ∧ l.any (·.refKey) = false
  | [], _, _, _ => ⟨rfl, rfl⟩
  | e :: r, [], h, _ => by cases h
  | e :: r, k :: ks, h, hz => by
    have h1 : nameOf e :: r.map nameOf = some k :: ks.map some := h
    injection h1 with h2 h3
    obtain ⟨i1, i2⟩ := find_no h3 (fun hm => hz (List.mem_cons_of_mem _ hm))
    have hne : z ≠ k := fun q => hz (q ▸ List.mem_cons_self)
    unfold nameOf at h2
    split at h2
    · rename_i x t q
      cases h2
      have hk : e.key.isStr k = true := by rw [q]; simp [Value.isStr]
      have h4 := PySem.isStr_other (name := z) (name' := k) hne e hk
      have h5 := PySem.isStr_notRef e hk
      exact ⟨by rw [List.find?_cons, h4]; exact i1, by rw [List.any_cons, h5, i2]; rfl⟩
    · cases h2
theorem gdict_of {x : Str} {p : Addr} {es : Array DictEntry} {n : Nat} {ks : List Str} {kvs : List (List Nat × D)} (X : K.In h) (G : h.Ns mainGlobals mg) (e : PySem.W.nsIn K mainGlobals x = some (some (.ref p)))
    (l : K.lookup p = some ⟨.type "dict", none, .dict es n, #[]⟩) (k : PySem.W.KeysLit w.params es.toList) (low : (p == sysModules) = false) (nm : es.toList.map nameOf = ks.map some) (g : GVs K p kvs ks) : GDict K w mg x kvs := by
  refine ⟨p, es, n, PySem.W.mg_of X G e, ⟨l, k, low⟩, fun z => ?_⟩
  cases hk : kvs.lookup z with
  | some d =>
    obtain ⟨u, h1, v, h2, h3⟩ := g.at_ hk
    exact ⟨u, v, h1, h2, h3⟩
  | none =>
    obtain ⟨h1, h2⟩ := find_no nm (g.no hk)
    show PySem.W.nsIn K p (S z) = some none
    unfold PySem.W.nsIn
    rw [l]
    show (match es.toList.find? (fun e => e.key.isStr (S z)) with
      | some e => some (some e.val)
      | none => if es.toList.any (·.refKey) then none else some none) = some none
    rw [h1, h2]
    rfl
end
end VI
namespace VI
open PySem PySem.Spec PyProof.Rows L2
section
variable {X : Cx}
/-- sep.join(tuple) -/
def sJoinT (s : List Nat) : Mem → List D → Option D
  | _, [.tup ds] => match toStrs ds with
    | some ss => if (ss.map (·.length)).sum + ss.length * s.length ≤ 16777216 then some (.str (joinD s ss)) else none
    | none => none
  | _, _ => none
theorem ms_joinT : MS X "str.join" sJoinT := by
  intro F φ m H s ds d vs rp r h Q q
  unfold sJoinT at h
  split at h
  · split at h
    · rename_i es ss e
      split at h
      · rename_i hl
        cases h
        obtain ⟨v, rfl, r0⟩ := r.one
        cases r0 with
        | @tup p _ ws q1 rv =>
          have e1 := toStrs_eq e
          subst e1
          have e2 := rv.strs_inv
          subst e2
          refine ⟨_, mt_join, S s, p, ss.map S, rfl, rfl, .inr (Evl.ex_t rp.ex q1), ?_, ?_⟩
          · rw [lens_S, List.length_map, S_len]; exact hl
          · have : (Txt.join (S s) (ss.map S)) = S (joinD s ss) := by unfold joinD; rw [S_mk]
            rw [this]
            exact same rp q (.str _)
      · cases h
    · cases h
  · cases h
end
end VI
end
section
namespace VI
open PySem PySem.Spec PyProof.Rows L2
section
variable {X : Cx} {a b c e f o tg : Expr} {es : List Expr} {pos p apos cpos : Pos} {fa fb fe ff fo fi : EF} {fr : AF} {x name : Str}
variable {F : Hp} {φ : List Addr} {m : Mem} {H : Hp}
/-! ### pop at a place -/
theorem VRs.eraseIdx {K : PySem.W.Frag} {ds : List D} {vs : List V} (r : VRs K F φ ds vs) (k : Nat) : VRs K F φ (ds.eraseIdx k) (vs.eraseIdx k) := by
  rw [List.eraseIdx_eq_take_drop_succ, List.eraseIdx_eq_take_drop_succ]
  exact (r.take k).app (r.drop (k + 1))
def ePopAt (fo fe : EF) : EF := fun ρ m => match fo ρ m with
  | some (.cell c, m1) => match m1[c]? with
    | some (.lst _) => match fe ρ m1 with
      | some (.int i, m2) => match m2[c]? with
        | some (.lst ds) => match L2.ixN ds.length i with
          | some k => match ds[k]? with
            | some d => if 0 ≤ i ∧ i < 4611686018427387904 then some (d, m2.set c (.lst (ds.eraseIdx k))) else none
            | none => none
          | none => none
        | _ => none
      | _ => none
    | _ => none
  | _ => none
theorem j_popAt (ho : JE X o fo) (he : JE X e fe) (hbase : attributeBase o "pop" X.env (eval o X.env) = eval o X.env := by rfl)
    (hfew : ((backTo cpos (starEach [e] X.env)).all (fun x => !x.1) && (backToKw cpos (keywordEach [] X.env)).all (fun x => x.1.isSome)
      && decide ([e].length + ([] : List Keyword).length + (if ([] : List Keyword).isEmpty then 0 else 1) < 30)) = true := by rfl)
    (hline : (apos.endLine == cpos.line) = true := by rfl) (hs : starEach [e] X.env = (false, eval e X.env) :: starEach [] X.env := by rfl) (hplain : (backTo cpos (starEach [] X.env)).any (·.1) = false := by rfl) :
    JE X (.Call (.Attribute o "pop" apos) [e] [] cpos) (ePopAt fo fe) := ⟨fun {F φ m H ρ σ d m'} rp er hf Q q => by
  refine we_of (pe_bm PySem.F.plainAttrs_list PySem.F.slot_list_pop PySem.F.type_list_pop mt_popAt pe_w pa_w hbase hfew hline hs hplain) ?_
  unfold ePopAt at hf
  split at hf
  · rename_i c m1 h1
    split at hf
    · rename_i ds0 hm0
      split at hf
      · rename_i i m2 h2
        split at hf
        · rename_i ds hm
          split at hf
          · rename_i k hk
            split at hf
            · rename_i dk hdk
              split at hf
              · rename_i hl
                cases hf
                refine ho.run rp er h1 _ fun F1 φ1 v H1 n1 r1 => ?_
                cases r1 with
                | @cell _ a hp =>
                  obtain ⟨_, o1, ho1, vs1, rfl, rv1⟩ := n1.rep.cell _ _ _ hm0 (fun e => nomatch e) hp
                  refine ⟨.inl ⟨rfl, _, SqL.of ho1⟩, ?_⟩
                  refine (ja_cons (X := X) he ja_nil hs).run n1.rep (er.mono n1.exF n1.pre) (ds := [.int i]) (m' := m2) (by simp only [aCons, h2, aNil]) _ fun F2 φ2 vs H2 n2 r2 => ?_
                  obtain ⟨vy, rfl, ry⟩ := r2.one
                  cases ry
                  have hp2 := n2.pre _ _ hp
                  obtain ⟨_, o2, ho2, vs2, rfl, rv2⟩ := n2.rep.cell _ _ _ hm (fun e => nomatch e) hp2
                  obtain ⟨y, hy, ry⟩ := rv2.get hdk
                  have hk' : L2.ixN vs2.length i = some k := by rw [← rv2.len]; exact hk
                  refine ⟨a, vs2, i, k, y, rfl, rfl, ho2, by omega, by omega, (ixN_seq hk').1, hy, ?_⟩
                  have n3 := n2.rep.write (y := O.lst (ds.eraseIdx k)) (o := .lst (vs2.eraseIdx k)) hm (fun e => nomatch e) hp2 (fun e => nomatch e) ⟨_, rfl, rv2.eraseIdx k⟩
                  exact q _ _ _ _ ((n1.trans n2).trans n3) (ry.mono n3.exF n3.pre)
              · cases hf
            · cases hf
          · cases hf
        · cases hf
      · cases hf
    · cases hf
  · cases hf⟩
end
end VI
end
section
namespace VI
open PySem PySem.Spec PyProof.Rows L2
/-! ### classes: their instances -/
/-- what the class at a name must have: no class has one of the attributes as its own -/
structure ClsOk (K : PySem.W.Frag) (n : Str) (as : List Str) (C : Addr) : Prop where
  ns : PySem.W.nsIn K mainGlobals n = some (some (.ref C))
  cls : Cls K C
  no : ∀ a ∈ as, NoAttr K C a
def ClsAt (K : PySem.W.Frag) (n : Str) (as : List Str) : Prop := ∃ C, ClsOk K n as C
/-- a class that may be made by its name; its init -/
structure FnC (P : Program) (w : World) (K : PySem.W.Frag) (mg : Str → Option Value) (base : Heap) (k : Nat) (n : Str) (ps : List Str) (g : FD) : Prop where
  ex : ∃ C f fd, PySem.W.nsIn K mainGlobals n = some (some (.ref C)) ∧ mg n = some (.ref C) ∧ Mk K C f ∧ FnOk P w K mg base CX0 k f fd ps (spD K g) ∧ Binds K fd ps []
/-- the class and its init, by the top -/
def ClsT (K : PySem.W.Frag) (mg : Str → Option Value) (n q : Str) (as : List Str) (st : Stmt) : Prop := ∃ C f fd, ClsOk K n as C ∧ mg n = some (.ref C) ∧ Mk K C f ∧ Fun K "__init__" q st f fd
theorem ClsT.at_ {K mg n q as st} (h : ClsT K mg n q as st) : ClsAt K n as := by
  obtain ⟨C, _, _, h, _⟩ := h
  exact ⟨C, h⟩
/-- the statement at a place of a class -/
def clsSt (st : Stmt) (j : Nat) : Stmt := match st with
  | .ClassDef _ _ _ body _ _ _ _ _ _ _ => body.getD j (.Pass ⟨0, 0, 0, 0⟩)
  | _ => .Pass ⟨0, 0, 0, 0⟩
theorem noa_nil {K : PySem.W.Frag} {C : Addr} : ∀ a ∈ ([] : List Str), NoAttr K C a := fun a h => nomatch h
theorem noa_cons {K : PySem.W.Frag} {C : Addr} {x : Str} {r : List Str} (h : PySem.W.findIn K (.ref C) x = some none) (g : ∀ a ∈ r, NoAttr K C a) : ∀ a ∈ x :: r, NoAttr K C a := fun a ha => by
  rcases List.mem_cons.mp ha with e | ha
  · rw [e]; exact h
  · exact g a ha
section
variable {P : Program} {w : World} {K : PySem.W.Frag} {mg : Str → Option Value} {base : Heap}
variable {F : Hp} {φ : List Addr}
theorem FnC.of {n qual : Str} {as : List Str} {st : Stmt} {N ps : List Str} {k : Nat} {b : BF} (D : ClsT K mg n qual as st) (S : FnScope N ps (defScope st))
    (bn : ∀ (kV doc pm : Value) (an : Option Addr) (cdv ct : Value) (us : List Value), us.length = ps.length → bindArgs (PySem.W.fnOf "__init__" qual (defArgs st) (defBody st) (defScope st) .none kV doc pm an cdv ct) ⟨us, []⟩ = pure (ps.zip us))
    (body : Body P w K mg base k N qual st b) : FnC P w K mg base (k + 1) n ps (fnD ps.length N.length b) := by
  obtain ⟨C, f, fd, hc, hm, M, F⟩ := D
  exact ⟨C, f, fd, hc.ns, hm, M, okD F S (body f), F.binds bn⟩
def putFD (f : Str) (v : D) : List (Str × D) → List (Str × D)
  | [] => [(f, v)]
  | (g, x) :: r => if g = f then (g, v) :: r else (g, x) :: putFD f v r
theorem FR.put {f : Str} {d : D} {v : V} (h : VR K F φ d v) : ∀ {ds vs}, FR K F φ ds vs → FR K F φ (putFD f d ds) (putF f v vs)
  | _, _, .nil => .cons h .nil
  | (g, x) :: r, (_, y) :: s, .cons hx hr => by
    unfold putFD putF
    by_cases e : g = f
    · rw [if_pos e, if_pos e]; exact .cons h hr
    · rw [if_neg e, if_neg e]; exact .cons hx (FR.put h hr)
theorem FR.at_ {f : Str} {d : D} : ∀ {ds vs}, FR K F φ ds vs → ds.lookup f = some d → ∃ v, vs.lookup f = some v ∧ VR K F φ d v
  | _, _, .nil, h => by cases h
  | (g, x) :: r, (_, y) :: s, .cons hx hr, h => by
    rw [List.lookup_cons] at h ⊢
    cases e : f == g with
    | true => rw [e] at h; cases h; exact ⟨y, rfl, hx⟩
    | false => rw [e] at h; exact FR.at_ hr h
theorem FR.len : ∀ {ds vs}, FR K F φ ds vs → ds.length = vs.length
  | _, _, .nil => rfl
  | _ :: r, _ :: s, .cons _ hr => by rw [List.length_cons, List.length_cons, FR.len hr]
end
section
variable {X : Cx} {a b c e o tg value : Expr} {es : List Expr} {pos pos' p apos cpos : Pos} {fa fb fe fo fi : EF} {fr : AF} {x name n f : Str} {ps as : List Str} {g : FD} {k : Nat}
variable {F : Hp} {φ : List Addr} {m : Mem} {H : Hp}
/-- C(e, ..): a new instance, then its init -/
def eMake (n : Str) (g : FD) (r : AF) : EF := fun ρ m => match r ρ m with
  | some (ds, m1) => match g (.cell m1.length :: ds) (m1 ++ [.ins n []]) with
    | some (.non, m2) => some (.cell m1.length, m2)
    | _ => none
  | none => none
theorem j_make (F : FnC X.prog X.w X.K X.mg X.base k n ps g) (hr : Room (k + 1) X.A) (ha : JA X (e :: es) fr) (hg : Gl X n := by rfl) (hdb : (n == ("__debug__" : Str)) = false := by decide) (he : starEach (e :: es) X.env = (false, eval e X.env) :: starEach es X.env := by rfl)
    (hpl : (backTo pos (starEach es X.env)).any (·.1) = false := by rfl) : JE X (.Call (.Name n p) (e :: es) [] pos) (eMake n g fr) := ⟨fun {F0 φ m H ρ σ d m'} rp er hf Q q => by
  obtain ⟨C, f, fd, hn, hm, M, F, hb⟩ := F.ex
  unfold eMake at hf
  split at hf
  · rename_i ds m1 h1
    split at hf
    · rename_i m2 h2
      cases hf
      refine we_of (pe_make M F hr hg hm hb .nil pass0 pa_w hdb he hpl) (ha.run rp er h1 _ fun F1 φ1 vs H1 n1 r1 => ?_)
      intro y dx hy hdx hne
      rw [List.append_nil]
      have n2 := n1.rep.frozen (o := .own y) hdx
      have hy2 : upd H1 dx (.own y) y = none := by rw [upd_ne (Ne.symm hne)]; exact hy
      have n3 := n2.rep.alloc (p := y) (o := .ins C dx []) (x := .ins n []) hy2 (fun e => nomatch e) ⟨C, dx, [], hn, rfl, .nil⟩
      have n23 := n2.trans n3
      have hcell : (φ1 ++ [y])[m1.length]? = some y := by
        rw [List.getElem?_append_right (by rw [n1.rep.len]; exact Nat.le_refl _), n1.rep.len, Nat.sub_self]; rfl
      refine ⟨_, _, _, .cell m1.length :: ds, .non, m', n3.rep, .cons (.cell hcell) (r1.mono n23.exF n23.pre), h2, fun F' φ' v H' nn r => ?_⟩
      cases r
      exact ⟨rfl, q _ _ _ _ (n1.trans (n23.trans nn)) (.cell (nn.pre _ _ hcell))⟩
    · cases hf
  · cases hf⟩
/-- e.f of an instance of the class at n -/
def eFld (n f : Str) (fe : EF) : EF := fun ρ m => match fe ρ m with
  | some (.cell i, m1) => match m1[i]? with
    | some (.ins c fs) => if c = n then (match fs.lookup f with
      | some d => some (d, m1)
      | none => none) else none
    | _ => none
  | _ => none
theorem j_fld (hc : ClsAt X.K n as) (he : JE X e fe) (hf' : f ∈ as := by decide) (hb : attributeBase e f X.env (eval e X.env) = eval e X.env := by rfl) : JE X (.Attribute e f pos) (eFld n f fe) := ⟨fun {F φ m H ρ σ d m'} rp er hf Q q => by
  obtain ⟨C, hn, hcl, hno⟩ := hc
  refine we_of (pe_fld pe_w hb) ?_
  unfold eFld at hf
  split at hf
  · rename_i i m1 h1
    split at hf
    · rename_i c fs hm
      split at hf
      · rename_i hcn
        split at hf
        · rename_i d1 hd
          cases hf
          subst hcn
          refine he.run rp er h1 _ fun F1 φ1 v H1 n1 r1 => ?_
          cases r1 with
          | @cell _ a hp =>
            obtain ⟨_, o1, ho1, C', dx, vs, hn', rfl, rv⟩ := n1.rep.cell _ _ _ hm (fun e => nomatch e) hp
            rw [hn] at hn'
            cases hn'
            obtain ⟨v, hv, rd⟩ := rv.at_ hd
            exact ⟨a, C, dx, vs, v, rfl, ho1, hcl, hno f hf', hv, q _ _ _ _ n1 rd⟩
        · cases hf
      · cases hf
    · cases hf
  · cases hf⟩
/-- o.f = e -/
def bAttr (n f : Str) (fo fe : EF) : BF := fun ρ m => match fe ρ m with
  | some (d, m1) => match fo ρ m1 with
    | some (.cell i, m2) => match m2[i]? with
      | some (.ins c fs) => if c = n ∧ fs.length < 1000 then some (.nx ρ, m2.set i (.ins c (putFD f d fs))) else none
      | _ => none
    | _ => none
  | none => none
theorem js_attr (hc : ClsAt X.K n as) (ho : JE X o fo) (he : JE X value fe) (hf' : f ∈ as := by decide) (hs : swapsWith value (some (.Attribute o f pos')) pos.line X.env = pure false := by rfl) : JS X (.Assign [.Attribute o f pos'] value pos) (bAttr n f fo fe) := ⟨fun {F φ m H ρ σ r m'} rp er hf D q => by
  obtain ⟨C, hn, hcl, hno⟩ := hc
  refine ws_of (ps_fld pe_w pe_w hs) ?_
  unfold bAttr at hf
  split at hf
  · rename_i d m1 h1
    split at hf
    · rename_i i m2 h2
      split at hf
      · rename_i c fs hm
        split at hf
        · rename_i hcn
          cases hf
          obtain ⟨rfl, hlen⟩ := hcn
          refine he.run rp er h1 _ fun F1 φ1 v H1 n1 r1 => ?_
          refine ho.run n1.rep (er.mono n1.exF n1.pre) h2 _ fun F2 φ2 x H2 n2 r2 => ?_
          cases r2 with
          | @cell _ a hp =>
            obtain ⟨_, o1, ho1, C', dx, vs, hn', rfl, rv⟩ := n2.rep.cell _ _ _ hm (fun e => nomatch e) hp
            rw [hn] at hn'
            cases hn'
            have n3 := n2.rep.write (y := .ins c (putFD f d fs)) (o := .ins C dx (putF f v vs)) hm (fun e => nomatch e) hp (fun e => nomatch e) ⟨C, dx, _, hn, rfl, rv.put (r1.mono n2.exF n2.pre)⟩
            have n23 := n2.trans n3
            exact ⟨a, C, dx, vs, rfl, ho1, hcl, hno f hf', by rw [← rv.len]; exact hlen, q _ _ _ _ (n1.trans n23) ((er.mono n1.exF n1.pre).mono n23.exF n23.pre)⟩
        · cases hf
      · cases hf
    · cases hf
  · cases hf⟩
end
end VI
end
section
namespace VI
open PySem PySem.Spec PyProof.Rows L2
open PySem.W (AlikeAll minD minD_ints min_list_default)
section
variable {X : Cx} {a b c e o d tg value : Expr} {es : List Expr} {pos pos' p apos cpos kpos : Pos} {fa fb fe fo fi fd : EF} {fr : AF} {x name n f : Str}
variable {F : Hp} {φ : List Addr} {m : Mem} {H : Hp}
/-! ### min(e, default=d), of a list of ints -/
theorem toInts_of : ∀ ns : List Int, toInts (ns.map D.int) = some ns
  | [] => rfl
  | n :: r => by rw [List.map_cons]; unfold toInts; rw [toInts_of r]
def minL : Int → List Int → Int := fun n ns => ns.foldl min n
def eMinD (fe fd : EF) : EF := fun ρ m => match fe ρ m with
  | some (x, m1) => match fd ρ m1 with
    | some (d, m2) => match lstD m2 x with
      | some ds => match toInts ds with
        | some [] => some (d, m2)
        | some (n :: ns) => some (.int (minL n ns), m2)
        | none => none
      | none => none
    | none => none
  | none => none
theorem alike_ints (ns : List Int) : AlikeAll (ns.map PyData.int) := by
  refine ⟨fun x hx y hy => ?_, fun x hx => ?_⟩
  · obtain ⟨i, _, rfl⟩ := List.mem_map.mp hx
    obtain ⟨j, _, rfl⟩ := List.mem_map.mp hy
    rfl
  · obtain ⟨i, _, rfl⟩ := List.mem_map.mp hx
    exact fun e => nomatch e
theorem depth_ints : ∀ ns : List Int, PyData.depthAll (ns.map PyData.int) = 0
  | [] => rfl
  | n :: r => by rw [List.map_cons]; unfold PyData.depthAll; rw [depth_ints r]; rfl
theorem reads_vals {h : Heap} : ∀ {ns : List Int} {us : List Value}, Vals (ns.map V.int) us → ReadsAll h us (ns.map PyData.int) []
  | [], _, r => by cases r; exact .nil
  | n :: ns, _, r => by
    cases r with
    | cons h r =>
      obtain ⟨t, rfl⟩ := h
      exact .cons (as := []) (bs := []) (.int n t) (reads_vals r)
theorem j_minD (hu : X.A.units + 64 < cLine) (hc : X.calm = true) (hm : X.mg "min" = none) (he : JE X e fe) (hd : JE X d fd) (hg : Gl X "min" := by rfl) (hst : starEach [e] X.env = (false, eval e X.env) :: starEach [] X.env := by rfl)
    (hall : (backToKw pos (keywordEach [⟨some "default", d, kpos⟩] X.env)).all (·.1.isSome) = true := by rfl) (hpl : (backTo pos (starEach [e] X.env)).any (·.1) = false := by rfl) (hkw : (backToKw pos (keywordEach [⟨some "default", d, kpos⟩] X.env)).any (·.1.isNone) = false := by rfl)
    (hks : (backToKw pos (keywordEach [⟨some "default", d, kpos⟩] X.env)).filterMap (·.1) = [("default" : Str)] := by rfl) :
    JE X (.Call (.Name "min" p) [e] [⟨some "default", d, kpos⟩] pos) (eMinD fe fd) := ⟨fun {F φ m H ρ σ d' m'} rp er hf Q q => by
  unfold eMinD at hf
  split at hf
  · rename_i x m1 h1
    split at hf
    · rename_i y m2 h2
      split at hf
      · rename_i ds hds
        intro pins s I
        refine wpAny_Call_Name_kw (ld_blt I hg hm (u := .builtin "min") rfl ?_)
        refine PyProof.Rows.callWith_builtin_kwB hpl hkw (PyProof.Rows.evalArgs_kw2 hall ?_ hst)
        refine thn ((ja_cons (X := X) he ja_nil hst).run rp er (ds := [x]) (m' := m1) (by simp only [aCons, h1, aNil]) (fun vs H1 => ∃ F1 φ1, Nxt X.K F φ m H F1 φ1 m1 H1 ∧ VRs X.K F1 φ1 [x] vs) (fun F1 φ1 vs H1 n1 r1 => ⟨F1, φ1, n1, r1⟩) pos pins s I) fun us s1 ⟨vs, H1, I1, ru, F1, φ1, n1, r1⟩ => ?_
        refine thn ((jk_cons (X := X) (nm := some "default") (kpos := kpos) hd jk_nil).run n1.rep (er.mono n1.exF n1.pre) (ds := [y]) (m' := m2) (by simp only [aCons, h2, aNil]) (fun vs H2 => ∃ F2 φ2, Nxt X.K F1 φ1 m1 H1 F2 φ2 m2 H2 ∧ VRs X.K F2 φ2 [y] vs) (fun F2 φ2 vs H2 n2 r2 => ⟨F2, φ2, n2, r2⟩) pos pins s1 I1) fun ws s2 ⟨zs, H2, I2, rz, F2, φ2, n2, r2⟩ => ?_
        rw [hks]
        obtain ⟨vx, rfl, rx⟩ := r1.one
        obtain ⟨vy, rfl, ry⟩ := r2.one
        obtain ⟨u, rfl, ru'⟩ := ru.one
        obtain ⟨z, rfl, rz'⟩ := rz.one
        obtain ⟨q0, vs0, rfl, hq0, rv0⟩ := lstD_ok n2.rep (rx.mono n2.exF n2.pre) hds
        obtain rfl : u = Value.ref q0 := ru'
        have n12 := n1.trans n2
        obtain ⟨its, ri, hpl', _⟩ := I2.list (SqL.of (K := X.K) hq0)
        have hh : X.A.handled = none := I2.ok.hd hc
        have key : ∀ ns : List Int, toInts ds = some ns → (ns = [] → d' = y ∧ m' = m2) → (∀ n r, ns = n :: r → d' = .int (minL n r) ∧ m' = m2) → wpAny (model X.prog X.w) X.A (call (.builtin "min") [.ref q0] [("default", z)]) (EP X pins σ Q) X.xe s2 := by
          intro ns hns k0 k1
          have hdsi := toInts_eq hns
          subst hdsi
          have hv := rv0.ints_inv
          subst hv
          have ra : ReadsAll s2.heap its.toArray.toList (ns.map PyData.int) [] := reads_vals ri
          refine min_list_default (A := X.A) hh hpl'.isList ra (alike_ints ns) (by rw [depth_ints]; omega) (fun h0 h' tk hk => ?_) (fun y0 ys i v h' tk bs hxs hvi hrd hk => ?_)
          · obtain ⟨rfl, rfl⟩ := k0 (by cases ns with | nil => rfl | cons a b => cases h0)
            exact ⟨vy, H2, I2.kept hk, rz', q _ _ _ _ n12 ry⟩
          · cases ns with
            | nil => cases hxs
            | cons n r =>
              cases hxs
              obtain ⟨rfl, rfl⟩ := k1 n r rfl
              rw [minD_ints] at hrd
              cases hrd with
              | int i t => exact ⟨.int _, H2, I2.kept hk, ⟨t, rfl⟩, q _ _ _ _ n12 (.int _)⟩
        split at hf
        · rename_i h3
          cases hf
          exact key [] h3 (fun _ => ⟨rfl, rfl⟩) (fun n r e => nomatch e)
        · rename_i n ns h3
          cases hf
          exact key (n :: ns) h3 (fun e => nomatch e) (fun n' r' e => by cases e; exact ⟨rfl, rfl⟩)
        · cases hf
      · cases hf
    · cases hf
  · cases hf⟩
/-! ### not of any truth -/
def eNotT (fa : EF) : EF := fun ρ m => match fa ρ m with
  | some (d, m1) => match truD m1 d with
    | some k => some (.bl (!k), m1)
    | none => none
  | none => none
theorem j_notT (ha : JE X a fa) : JE X (.UnaryOp .Not a pos) (eNotT fa) := ⟨fun {F φ m H ρ σ d m'} rp er hf Q q => by
  refine we_of (pe_notT pe_w) ?_
  unfold eNotT at hf
  split at hf
  · rename_i d1 m1 h1
    split at hf
    · rename_i k hk
      cases hf
      exact ha.run rp er h1 _ fun F1 φ1 vx H1 n1 r1 => ⟨k, tru_D n1.rep r1 hk, q _ _ _ _ n1 (.bl _)⟩
    · cases hf
  · cases hf⟩
/-! ### a list of two, as a list of its own -/
def eAddC (fa fb : EF) : EF := fun ρ m => match fa ρ m with
  | some (x, m1) => match fb ρ m1 with
    | some (y, m2) => match lstD m2 x, lstD m2 y with
      | some ds, some es => if ds.length + es.length ≤ 16777216 then some (.cell m2.length, m2 ++ [.lst (ds ++ es)]) else none
      | _, _ => none
    | none => none
  | none => none
theorem j_addC (ha : JE X a fa) (hb : JE X b fb) : JE X (.BinOp a .Add b pos) (eAddC fa fb) := ⟨fun {F φ m H ρ σ d m'} rp er hf Q q => by
  refine we_of (pe_op opr_w pe_w pe_w) ?_
  unfold eAddC at hf
  split at hf
  · rename_i x m1 h1
    split at hf
    · rename_i y m2 h2
      split at hf
      · rename_i ds es hx hy
        split at hf
        · rename_i hl
          cases hf
          refine ha.run rp er h1 _ fun F1 φ1 vx H1 n1 r1 => ?_
          refine hb.run n1.rep (er.mono n1.exF n1.pre) h2 _ fun F2 φ2 vy H2 n2 r2 => ?_
          obtain ⟨p, vs, rfl, hp, rv⟩ := lstD_ok n2.rep (r1.mono n2.exF n2.pre) hx
          obtain ⟨p2, ws, rfl, hp2, rw2⟩ := lstD_ok n2.rep r2 hy
          refine ⟨_, op_cat, p, p2, vs, ws, rfl, rfl, hp, hp2, by rw [← rv.len, ← rw2.len]; exact hl, fun l hl0 => ?_⟩
          have n := n2.rep.alloc (x := .lst (ds ++ es)) (o := .lst (vs ++ ws)) hl0 (fun e => nomatch e) ⟨_, rfl, rv.app rw2⟩
          refine q _ _ _ _ ((n1.trans n2).trans n) (.cell ?_)
          rw [← n2.rep.len, List.getElem?_append_right (Nat.le_refl _), Nat.sub_self]
          rfl
        · cases hf
      · cases hf
    · cases hf
  · cases hf⟩
/-! ### a list, its own or not, from here on a value -/
def eFrzL (fe : EF) : EF := fun ρ m => match fe ρ m with
  | some (.lst ds, m1) => some (.lst ds, m1)
  | some (.cell c, m1) => match m1[c]? with
    | some (.lst ds) => some (.lst ds, m1.set c .dead)
    | _ => none
  | _ => none
theorem j_frzL (h : JE X e fe) : JE X e (eFrzL fe) := ⟨fun {F φ m H ρ σ d m'} rp er hf Q q => by
  unfold eFrzL at hf
  split at hf
  · rename_i ds m1 h1
    cases hf
    exact h.run rp er h1 _ q
  · rename_i i m1 h1
    split at hf
    · rename_i ds h2
      cases hf
      refine h.run rp er h1 _ fun F1 φ1 v H1 n1 r1 => ?_
      cases r1 with
      | cell hp =>
        obtain ⟨vs, h3, h4, n2⟩ := n1.rep.freeze h2 hp
        exact q _ _ _ _ (n1.trans n2) (.lst upd_same (h4.mono n2.exF n2.pre))
    · cases hf
  · cases hf⟩
end
end VI
end
section
namespace VI
open PySem PySem.Spec PyProof.Rows L2
/-! ### x = [d[k] for k in d] -/
def valsD (kvs : List (Key × D)) : List (Key × D) → Option (List D)
  | [] => some []
  | (k, _) :: r => match valD kvs k with
    | some d => match valsD kvs r with
      | some ds => some (d :: ds)
      | none => none
    | none => none
theorem valsD_at {kvs : List (Key × D)} : ∀ {l : List (Key × D)} {ds : List D}, valsD kvs l = some ds → ds.length = l.length ∧ ∀ (i : Nat) (k : Key) (x : D), l[i]? = some (k, x) → ∃ d, ds[i]? = some d ∧ valD kvs k = some d
  | [], ds, h => by cases h; exact ⟨rfl, fun i k x h => by simp at h⟩
  | (k, y) :: r, ds, h => by
    unfold valsD at h
    split at h
    · rename_i d hd
      split at h
      · rename_i es he
        cases h
        obtain ⟨h1, h2⟩ := valsD_at he
        refine ⟨by rw [List.length_cons, List.length_cons, h1], fun i k' x hi => ?_⟩
        cases i with
        | zero => cases hi; exact ⟨d, rfl, hd⟩
        | succ i => exact h2 i k' x hi
      · cases h
    · cases h
def eVals (j ik : Nat) (own : List Nat) : EF := fun ρ m => match ρ[j]? with
  | some (some (.cell c)) => match m[c]? with
    | some (.dct kvs) => if ik < ρ.length ∧ ik ≠ j ∧ j ∉ own ∧ kvs.length ≤ 16777215 then (match valsD kvs kvs with
      | some ds => some (.lst ds, m)
      | none => none) else none
    | _ => none
  | _ => none
theorem wipeD_len (ρ : Env) : ∀ own : List Nat, (wipeD ρ own).length = ρ.length
  | [] => rfl
  | i :: is => by show ((wipeD ρ is).set i none).length = _; rw [List.length_set, wipeD_len ρ is]
theorem wipeD_at {ρ : Env} {j : Nat} : ∀ {own : List Nat}, j ∉ own → (wipeD ρ own)[j]? = ρ[j]?
  | [], _ => rfl
  | i :: is, h => by
    show ((wipeD ρ is).set i none)[j]? = _
    rw [List.getElem?_set_ne (fun e => h (by rw [e]; exact List.mem_cons_self)), wipeD_at fun g => h (List.mem_cons_of_mem _ g)]
theorem toKey_kD : ∀ k : Key, toKey (kD k) = some k
  | .inl i => rfl
  | .inr x => by
    show some (Sum.inr (S x.cps.toList)) = _
    rw [S_mk]
section
variable {K : PySem.W.Frag} {F F' : Hp} {φ φ' : List Addr} {m : Mem} {H H' : Hp} {c : Nat} {a : Addr} {kvs : List (Key × D)} {vs : List (Key × V)}
theorem KR.get : ∀ {ds : List (Key × D)} {vs : List (Key × V)} {i : Nat} {k : Key} {v : V}, KR K F φ ds vs → vs[i]? = some (k, v) → ∃ x, ds[i]? = some (k, x)
  | _, _, _, _, _, .nil, h => by simp at h
  | (k0, d0) :: ds, (_, v0) :: vs, 0, _, _, .cons h r, e => by cases e; exact ⟨d0, rfl⟩
  | (k0, d0) :: ds, (_, v0) :: vs, i + 1, _, _, .cons h r, e => KR.get (i := i) r e
theorem KR.length : ∀ {ds : List (Key × D)} {vs : List (Key × V)}, KR K F φ ds vs → ds.length = vs.length
  | _, _, .nil => rfl
  | _ :: _, _ :: _, .cons _ r => by rw [List.length_cons, List.length_cons, KR.length r]
theorem Rep.lock (r : Rep K F φ m H) (hc : m[c]? = some (.dct kvs)) (hp : φ[c]? = some a) (o : HO) : Rep K F φ (m.set c .dead) (upd H a o) ∧ ¬ Live φ (m.set c .dead) a ∧ F a = none := by
  obtain ⟨hF, _⟩ := r.cell c _ a hc (fun e => nomatch e) hp
  have hl := (List.getElem?_eq_some_iff.mp hc).1
  have old : ∀ (i : Nat) (x : O), (m.set c .dead)[i]? = some x → x ≠ O.dead → i ≠ c ∧ m[i]? = some x := fun i x h1 h2 => by
    have e : i ≠ c := fun e => by subst e; rw [List.getElem?_set_self hl] at h1; exact h2 (Option.some.inj h1).symm
    rw [List.getElem?_set_ne (Ne.symm e)] at h1
    exact ⟨e, h1⟩
  refine ⟨⟨by rw [List.length_set]; exact r.len, fun x y h => ?_, fun i x b h1 h2 h3 => ?_, fun i j x y b h1 h2 h3 h4 h5 h6 => ?_⟩, ?_, hF⟩
  · have ne : x ≠ a := fun e => by subst e; rw [hF] at h; cases h
    rw [upd_ne ne]; exact r.ex x y h
  · obtain ⟨e, g1⟩ := old i x h1 h2
    have ne : b ≠ a := fun q => e (by subst q; exact r.inj i c x _ b g1 h2 hc (fun e => nomatch e) h3 hp)
    obtain ⟨q1, w, q2, q3⟩ := r.cell i x b g1 h2 h3
    exact ⟨q1, w, by rw [upd_ne ne]; exact q2, q3⟩
  · exact r.inj i j x y b (old i x h1 h2).2 h2 (old j y h3 h4).2 h4 h5 h6
  · rintro ⟨i, x, h1, h2, h3⟩
    obtain ⟨e, g1⟩ := old i x h1 h2
    exact e (r.inj i c x _ a g1 h2 hc (fun e => nomatch e) h3 hp)
theorem Nxt.unlock {o : HO} (r : Rep K F φ m H) (hc : m[c]? = some (.dct kvs)) (hp : φ[c]? = some a) (rk : KR K F φ kvs vs) (n : Nxt K F φ (m.set c .dead) (upd H a o) F' φ' (m.set c .dead) H') : Nxt K F φ m H F' φ' m (upd H' a (.dK vs)) := by
  obtain ⟨_, nl, hFa⟩ := r.lock hc hp o
  obtain ⟨hHa, nl', hFa'⟩ := n.keep a _ upd_same nl
  rw [hFa] at hFa'
  have hl := (List.getElem?_eq_some_iff.mp hc).1
  have hlen : φ'.length = φ.length := by
    have := n.rep.len
    rw [List.length_set] at this
    rw [this, r.len]
  have same : ∀ (i : Nat) (b : Addr), i < m.length → φ'[i]? = some b → φ[i]? = some b := fun i b hi h => by
    have h1 : φ[i]? = some (φ[i]'(by rw [r.len]; exact hi)) := List.getElem?_eq_getElem _
    have h2 := n.pre _ _ h1
    rw [h] at h2
    rw [h1, ← h2]
  have set_ne : ∀ i, i ≠ c → (m.set c .dead)[i]? = m[i]? := fun i e => List.getElem?_set_ne (Ne.symm e)
  refine ⟨n.exF, n.pre, ⟨by rw [hlen, r.len], fun x y h => ?_, fun i x b h1 h2 h3 => ?_, fun i j x y b h1 h2 h3 h4 h5 h6 => ?_⟩, fun x y h l => ?_⟩
  · have ne : x ≠ a := fun e => by subst e; rw [hFa'] at h; cases h
    rw [upd_ne ne]; exact n.rep.ex x y h
  · have hi := (List.getElem?_eq_some_iff.mp h1).1
    have h3' := same i b hi h3
    by_cases e : i = c
    · subst e
      rw [hp] at h3'
      cases h3'
      rw [hc] at h1
      cases h1
      exact ⟨hFa', _, upd_same, vs, rfl, rk.mono n.exF n.pre⟩
    · have ne : b ≠ a := fun q => e (by subst q; exact r.inj i c x _ b h1 h2 hc (fun e => nomatch e) h3' hp)
      obtain ⟨q1, w, q2, q3⟩ := n.rep.cell i x b (by rw [set_ne i e]; exact h1) h2 h3
      exact ⟨q1, w, by rw [upd_ne ne]; exact q2, q3⟩
  · exact r.inj i j x y b h1 h2 h3 h4 (same i b (List.getElem?_eq_some_iff.mp h1).1 h5) (same j b (List.getElem?_eq_some_iff.mp h3).1 h6)
  · have ne : x ≠ a := fun e => by subst e; exact l ⟨c, _, hc, (fun e => nomatch e), hp⟩
    have l1 : ¬ Live φ (m.set c .dead) x := fun ⟨i, z, h1, h2, h3⟩ => by
      have e : i ≠ c := fun e => by subst e; rw [List.getElem?_set_self hl] at h1; exact h2 (Option.some.inj h1).symm
      rw [set_ne i e] at h1
      exact l ⟨i, z, h1, h2, h3⟩
    obtain ⟨g1, g2, g3⟩ := n.keep x y (by rw [upd_ne ne]; exact h) l1
    refine ⟨by rw [upd_ne ne]; exact g1, fun ⟨i, z, h1, h2, h3⟩ => ?_, g3⟩
    by_cases e : i = c
    · subst e
      have := same _ _ hl h3
      rw [hp] at this
      exact ne (Option.some.inj this).symm
    · exact g2 ⟨i, z, by rw [set_ne i e]; exact h1, h2, h3⟩
end
section
variable {X : Cx} {dn kn y : Str} {pd pd2 pk pk2 sp pos py spos : Pos} {ws : List Nat}
theorem js_setVals (i j ik : Nat) (own : List (Str × Nat)) {scope : Scope} (hc : X.calm = true) (hN : X.N.Nodup) (hit : JE X (.Name dn pd) (eVar j)) (hok : BlkOk X.N X.env.scope scope own)
    (hu : ∀ (s : Shared) (H : Hp) (C : Addr) (cl : List (Str × Addr)) (fp : List Addr), (X.blk s H scope (compEnvC scope cl C X.env) fp).A.units + 1 < cLine)
    (hg : ∀ (s : Shared) (H : Hp) (C : Addr) (cl : List (Str × Addr)) (fp : List Addr), JG (X.blk s H scope (compEnvC scope cl C X.env) fp) (.Name kn pk) (gName ik) ws)
    (ht : ∀ (s : Shared) (H : Hp) (C : Addr) (cl : List (Str × Addr)) (fp : List Addr), JC (X.blk s H scope (compEnvC scope cl C X.env) fp) [] tYes)
    (hd : ∀ (s : Shared) (H : Hp) (C : Addr) (cl : List (Str × Addr)) (fp : List Addr), JE (X.blk s H scope (compEnvC scope cl C X.env) fp) (.Name dn pd2) (eVar j))
    (hk : ∀ (s : Shared) (H : Hp) (C : Addr) (cl : List (Str × Addr)) (fp : List Addr), JE (X.blk s H scope (compEnvC scope cl C X.env) fp) (.Name kn pk2) (eVar ik))
    (hws : ∀ i ∈ ws, i ∈ own.map (·.2)) (hy : X.N[i]? = some y := by rfl) (hyl : X.env.scope.names.lookup y = some .local := by rfl) (hln : (py.line == pos.line) = true := by rfl) (hkf : X.env.scope.kind = .function := by rfl)
    (han : (scope.names.any fun (n, k) => n == y && (k == .local || k == .cell)) = false := by decide +kernel) (hs : ∀ x, foldedSetIterable (.Name dn pd) X.env x = pure x := by intro _; rfl) (hsl : NoSl (.Name kn pk2) := by intro _ _; rfl) :
    JS X (.Assign [.Name y py] (.ListComp (.Subscript (.Name dn pd2) (.Name kn pk2) sp) [⟨.Name kn pk, .Name dn pd, [], 0⟩] scope pos) spos) (bSet (gName i) (eVals j ik (own.map (·.2)))) := ⟨fun {F φ m H ρ σ r m'} rp er hf D q => by
  unfold bSet at hf
  split at hf
  · rename_i d m1 h1
    cases hf
    unfold eVals at h1
    split at h1
    · rename_i c hρj
      split at h1
      · rename_i kvs hm
        split at h1
        · rename_i hcond
          obtain ⟨hik, hne, hjo, hlen⟩ := hcond
          split at h1
          · rename_i ds hds
            cases h1
            obtain ⟨hdl, hda⟩ := valsD_at hds
            obtain ⟨v0, hv0, rv0⟩ := er.at_ j _ hρj
            cases rv0 with
            | @cell _ a hp =>
              obtain ⟨_, o1, ho1, vs, rfl, rk⟩ := rp.cell c _ a hm (fun e => nomatch e) hp
              have hkl := rk.length
              refine ws_of (ps_lock (ps_setLc (g := gB X scope (.Name kn pk)) (tt := tB2 X scope []) (te := eB X scope (.Subscript (.Name dn pd2) (.Name kn pk2) sp)) hc hN hy hyl (sw_true hkf hyl hln han) (pi_keys pe_w) hok
                (fun s0 H0 C cl fp => ⟨fun pins s σ H v u Q I r h => h s0 H0 C cl fp pins s u I r⟩) (fun s0 H0 C cl fp => ⟨fun pins s σ H Q I h => h s0 H0 C cl fp pins s I⟩)
                (fun s0 H0 C cl fp => ⟨fun pins s σ H Q I h => h s0 H0 C cl fp pins s I⟩) hs)) ?_
              refine ⟨a, .dK vs, ho1, trivial, fun od => ?_⟩
              obtain ⟨rp1, hLa, hFa⟩ := rp.lock hm hp (.frz od (.dK vs))
              refine hit.run rp1 er (d := .cell c) (m' := m.set c .dead) (by unfold eVar; rw [hρj]) _ fun F1 φ1 v H1 n1 r1 => ?_
              cases r1 with
              | @cell _ a1 hp1 =>
                have ha1 := n1.pre _ _ hp
                rw [hp1] at ha1
                cases ha1
                obtain ⟨hH1a, hL1a, hF1a⟩ := n1.keep a _ upd_same hLa
                refine ⟨a, od, rfl, .inl ⟨vs, hH1a, fun Dd hD => ?_⟩⟩
                have hFD := n1.rep.fresh_F hD
                have hLD := n1.rep.fresh_L hD
                have er1 := er.mono n1.exF n1.pre
                generalize hmd : m.set c O.dead = md at *
                refine ⟨fun i k H => ∃ F φ us, k = vs.length - i ∧ i ≤ vs.length ∧ Nxt X.K F1 φ1 md H1 F φ md H ∧ H Dd = some (.lst us) ∧ VRs X.K F φ (ds.take i) us ∧ ¬ Live φ md Dd ∧ F Dd = none, ⟨vs.length, F1, φ1, [], rfl, Nat.zero_le _, (Nxt.refl n1.rep).mut hD hLD hFD, upd_same, by rw [List.take_zero]; exact .nil, hLD, hFD⟩, ?_⟩
                rintro i0 k0 H2 ⟨F2, φ2, us, rfl, hle, n2, hD2, rv2, hL2, hF2⟩
                obtain ⟨hH2a, hL2a, hF2a⟩ := n2.keep a _ hH1a hL1a
                by_cases hlt : i0 < vs.length
                · refine .inr ⟨⟨hH2a, hlt⟩, fun H' => ∃ F φ us, i0 + 1 ≤ vs.length ∧ Nxt X.K F1 φ1 md H1 F φ md H' ∧ H' Dd = some (.lst us) ∧ VRs X.K F φ (ds.take (i0 + 1)) us ∧ ¬ Live φ md Dd ∧ F Dd = none,
                    fun H' ⟨F', φ', us', a1, a2⟩ => ⟨vs.length - (i0 + 1), by omega, F', φ', us', rfl, a1, a2⟩, fun x H3 hy3 s0 H0 C cl fp => ?_⟩
                  obtain ⟨rfl, k, vk, hkv, rfl⟩ := hy3
                  obtain ⟨xk, hxk⟩ := rk.get hkv
                  obtain ⟨d', hd', hval⟩ := hda i0 k xk hxk
                  have er3 := (er1.mono n2.exF n2.pre).wipe (own.map (·.2))
                  have hw := wipeD_len ρ (own.map (·.2))
                  refine (hg s0 H0 C cl fp).run n2.rep er3 (vr_key k) (ρ' := (wipeD ρ (own.map (·.2))).set ik (some (kD k))) (m' := md) rfl _ fun F4 φ4 σ4 H4 n4 er4 bt => ⟨wipe_but hws bt, fun s0 H0 C cl fp => ?_⟩
                  refine (ht s0 H0 C cl fp).run n4.rep er4 (b := true) (m' := md) rfl _ fun F5 φ5 H5 n5 => ?_
                  rw [if_pos rfl]
                  intro s0 H0 C cl fp
                  refine we_of (pe_dget (hu s0 H0 C cl fp) pe_w pe_w hsl) ?_
                  have er5 := er4.mono n5.exF n5.pre
                  have hvj : ((wipeD ρ (own.map (·.2))).set ik (some (kD k)))[j]? = some (some (.cell c)) := by
                    rw [List.getElem?_set_ne hne, wipeD_at hjo]; exact hρj
                  have hvk : ((wipeD ρ (own.map (·.2))).set ik (some (kD k)))[ik]? = some (some (kD k)) := List.getElem?_set_self (by rw [hw]; exact hik)
                  refine (hd s0 H0 C cl fp).run n5.rep er5 (d := .cell c) (m' := md) (by unfold eVar; rw [hvj]) _ fun F6 φ6 v6 H6 n6 r6 => ?_
                  refine (hk s0 H0 C cl fp).run n6.rep (er5.mono n6.exF n6.pre) (d := kD k) (m' := md) (by unfold eVar; rw [hvk]) _ fun F7 φ7 v7 H7 n7 r7 => ?_
                  have n27 := ((n4.trans n5).trans n6).trans n7
                  have n17 := n2.trans n27
                  obtain ⟨hH7a, hL7a, hF7a⟩ := n17.keep a _ hH1a hL1a
                  obtain ⟨hD7, hL7, hF7⟩ := n27.keep Dd _ hD2 hL2
                  cases r6 with
                  | @cell _ a6 hp6 =>
                    have ha6 := ((n2.trans (n4.trans n5)).trans n6).pre _ _ hp1
                    rw [hp6] at ha6
                    cases ha6
                    obtain ⟨q1, _⟩ := rk.val (k := k)
                    obtain ⟨w, hw2, rw2⟩ := q1 _ hval
                    refine ⟨a, w, rfl, .inl ⟨vs, k, .inr ⟨od, hH7a⟩, toKey_ok r7 (toKey_kD k), hw2.symm⟩, ?_⟩
                    have hul := rv2.len
                    rw [List.length_take] at hul
                    have hF7' : F7 Dd = none := by rw [hF7, hF2]
                    refine ⟨us, hD7, by show us.length < 16777216; omega, F7, φ7, us ++ [w], hlt, n17.mut hD hL7 hF7', upd_same, ?_, hL7, hF7'⟩
                    have ht1 : ds.take (i0 + 1) = ds.take i0 ++ [d'] := by rw [List.take_add_one, hd']; rfl
                    rw [ht1]
                    have ex17 := n1.exF.trans n17.exF
                    have pr17 := n1.pre.trans n17.pre
                    exact (rv2.mono n27.exF n27.pre).app (.cons (rw2.mono ex17 pr17) .nil)
                · have hi' : i0 = vs.length := by omega
                  subst hi'
                  rw [← hkl, ← hdl, List.take_length] at rv2
                  have n3 := n2.settle hD hD2 hL2 hF2
                  have n13 := n1.trans n3
                  subst hmd
                  have N := n13.unlock rp hm hp rk
                  exact .inl ⟨⟨hH2a, Nat.le_refl _⟩, hH2a, q _ _ _ _ N ((er.mono N.exF N.pre).set i (.lst upd_same (rv2.mono (Evl.Ex.new hF2) (Pre.refl _))))⟩
          · cases h1
        · cases h1
      · cases h1
    · cases h1
  · cases hf⟩
end
/-! ### min(e), of a list of ints -/
section
variable {X : Cx}
theorem foldl_minI : ∀ (r : List Int) (i : Int), (r.foldl min i ∈ i :: r) ∧ ∀ y ∈ i :: r, r.foldl min i ≤ y
  | [], i => ⟨List.mem_cons_self, fun y hy => by rw [List.mem_singleton.mp hy]; exact Int.le_refl _⟩
  | j :: r, i => by
    obtain ⟨h1, h2⟩ := foldl_minI r (min i j)
    have hm : r.foldl min (min i j) ≤ min i j := h2 _ List.mem_cons_self
    refine ⟨?_, fun y hy => ?_⟩
    · show r.foldl min (min i j) ∈ _
      rcases List.mem_cons.mp h1 with e | h
      · rw [e]
        by_cases hij : i ≤ j
        · rw [Int.min_eq_left hij]; exact List.mem_cons_self
        · rw [Int.min_eq_right (by omega)]; exact List.mem_cons_of_mem _ List.mem_cons_self
      · exact List.mem_cons_of_mem _ (List.mem_cons_of_mem _ h)
    · show r.foldl min (min i j) ≤ y
      rcases List.mem_cons.mp hy with e | hy
      · subst e; omega
      · rcases List.mem_cons.mp hy with e | hy
        · subst e; omega
        · exact h2 y (List.mem_cons_of_mem _ hy)
def bMinL : Mem → List D → Option D
  | m, [d] => match lstD m d with
    | some ds => match toInts ds with
      | some (i :: r) => some (.int (minL i r))
      | _ => none
    | none => none
  | _, _ => none
theorem cb_minL (hc : X.calm = true) : CB X (.builtin "min") bMinL := by
  intro F φ m H ds d vs rp rv h Q q
  unfold bMinL at h
  split at h
  · split at h
    · rename_i ds hd
      split at h
      · rename_i i r e
        cases h
        obtain ⟨v, rfl, rr⟩ := rv.one
        obtain ⟨q0, ws, rfl, hq, rvs⟩ := lstD_ok rp rr hd
        have e2 := toInts_eq e
        subst e2
        have e3 := rvs.ints_inv
        subst e3
        refine ⟨_, cr_min hc, _, i :: r, rfl, SqL.of hq, by simp, fun k hk hle => ?_⟩
        obtain ⟨g1, g2⟩ := foldl_minI r i
        have : k = minL i r := Int.le_antisymm (hle _ g1) (g2 k hk)
        subst this
        exact q _ _ _ _ (Nxt.refl rp) (.int _)
      · cases h
    · cases h
  · cases h
end
end VI
end
section
namespace VI
open PySem PySem.Spec PyProof.Rows L2
section
variable {X : Cx} {elt tg iter tg1 iter1 : Expr} {pos spos : Pos} {fe : EF} {fi fi1 : AF} {g g1 : GF} {ws ws1 : List Nat} {tc : TF}
theorem js_setLc2 (i : Nat) (own : List (Str × Nat)) (own1 : List Nat) {scope : Scope} {y : Str} {py : Pos} (hc : X.calm = true) (hN : X.N.Nodup) (hi : JI X tg iter fi) (hok : BlkOk X.N X.env.scope scope own)
    (hg : ∀ (s : Shared) (H : Hp) (C : Addr) (cl : List (Str × Addr)) (fp : List Addr), JG (X.blk s H scope (compEnvC scope cl C X.env) fp) tg g ws)
    (hi1 : ∀ (s : Shared) (H : Hp) (C : Addr) (cl : List (Str × Addr)) (fp : List Addr), JI (X.blk s H scope (compEnvC scope cl C X.env) fp) tg1 iter1 fi1)
    (hg1 : ∀ (s : Shared) (H : Hp) (C : Addr) (cl : List (Str × Addr)) (fp : List Addr), JG (X.blk s H scope (compEnvC scope cl C X.env) fp) tg1 g1 ws1)
    (he : ∀ (s : Shared) (H : Hp) (C : Addr) (cl : List (Str × Addr)) (fp : List Addr), JE (X.blk s H scope (compEnvC scope cl C X.env) fp) elt fe)
    (hws : ∀ i ∈ ws, i ∈ own.map (·.2)) (hws1 : ∀ i ∈ ws1, i ∈ own1) (hv : ∀ i ∈ own1, i ∈ own.map (·.2)) (hy : X.N[i]? = some y := by rfl) (hyl : X.env.scope.names.lookup y = some .local := by rfl) (hln : (py.line == pos.line) = true := by rfl) (hkf : X.env.scope.kind = .function := by rfl)
    (han : (scope.names.any fun (n, k) => n == y && (k == .local || k == .cell)) = false := by decide +kernel) (hs : ∀ x, foldedSetIterable iter X.env x = pure x := by intro _; rfl) (hs1 : ∀ env x, foldedSetIterable iter1 env x = pure x := by intro _ _; rfl) :
    JS X (.Assign [.Name y py] (.ListComp elt [⟨tg, iter, [], 0⟩, ⟨tg1, iter1, [], 0⟩] scope pos) spos) (bSet (gName i) (eComp2 (own.map (·.2)) own1 fi g fi1 g1 fe)) := ⟨fun {F φ m H ρ σ r m'} rp er hf D q => by
  unfold bSet at hf
  split at hf
  · rename_i d m1 h1
    cases hf
    unfold eComp2 eLst at h1
    split at h1
    · rename_i res m2 h2
      cases h1
      refine ws_of (ps_setLc2 (g := gB X scope tg) (tt := tB2 X scope []) (wi1 := iB X scope tg1 iter1) (g1 := gB X scope tg1) (tt1 := tB2 X scope []) (te := eB X scope elt) hc hN hy hyl (sw_true hkf hyl hln han) pi_w hok hv
        (fun s0 H0 C cl fp => ⟨fun pins s σ H v u Q I r h => h s0 H0 C cl fp pins s u I r⟩) (fun s0 H0 C cl fp => ⟨fun pins s σ H Q I h => h s0 H0 C cl fp pins s I⟩)
        (fun s0 H0 C cl fp => ⟨fun pins s σ H R I h => h s0 H0 C cl fp pins s I⟩)
        (fun s0 H0 C cl fp => ⟨fun pins s σ H v u Q I r h => h s0 H0 C cl fp pins s u I r⟩) (fun s0 H0 C cl fp => ⟨fun pins s σ H Q I h => h s0 H0 C cl fp pins s I⟩)
        (fun s0 H0 C cl fp => ⟨fun pins s σ H Q I h => h s0 H0 C cl fp pins s I⟩) hs hs1) ?_
      refine comp2_readG own own1 hi hg hi1 hg1 he hws hws1 rp er h2 _ fun F' φ' H0 H' D' F0 φ0 m0 n1 hD n2 b => ?_
      obtain ⟨vs, b1, b2, b3, b4⟩ := b
      have n3 := n2.settle hD b1 b3 b4
      have n := n1.trans n3
      exact q _ _ _ _ n ((er.mono n.exF n.pre).set i (.lst upd_same (b2.mono (Evl.Ex.new b4) (Pre.refl _))))
    · cases h1
  · cases hf⟩
end
/-! tuples of whole numbers, by order -/
theorem lexAt_tail (e r : Nat → Bool) (z : Bool) : ∀ (k i : Nat), Ob.lexAt e r z (i + 1) k = Ob.lexAt (fun j => e (j + 1)) (fun j => r (j + 1)) z i k
  | 0, _ => rfl
  | k + 1, i => by
    rw [Ob.lexAt_succ, Ob.lexAt_succ, lexAt_tail e r z k (i + 1)]
theorem lex_ok : ∀ (is js : List Int), is.length = js.length →
    Ob.lexAt (fun j => decide (is.getD j 0 = js.getD j 0)) (fun j => decide (is.getD j 0 ≤ js.getD j 0)) (decide (is.length ≤ js.length)) 0 (min is.length js.length) = lexLeD is js
  | [], [], _ => rfl
  | [], b :: t, h => by cases h
  | a :: r, [], h => by cases h
  | a :: r, b :: t, h => by
    have h2 : r.length = t.length := Nat.succ.inj h
    have ih := lex_ok r t h2
    have hm : min (a :: r).length (b :: t).length = min r.length t.length + 1 := by rw [List.length_cons, List.length_cons]; omega
    rw [hm, Ob.lexAt_succ, lexAt_tail]
    have e0 : decide ((a :: r).length ≤ (b :: t).length) = decide (r.length ≤ t.length) := decide_eq_decide.mpr (by rw [List.length_cons, List.length_cons]; omega)
    rw [e0]
    show (if decide (a = b) = true then Ob.lexAt (fun j => decide (r.getD j 0 = t.getD j 0)) (fun j => decide (r.getD j 0 ≤ t.getD j 0)) (decide (r.length ≤ t.length)) 0 (min r.length t.length) else decide (a ≤ b)) = if a = b then lexLeD r t else decide (a < b)
    rw [ih]
    by_cases g : a = b
    · rw [if_pos (decide_eq_true g), if_pos g]
    · rw [if_neg (by rw [decide_eq_true_iff]; exact g), if_neg g]
      exact decide_eq_decide.mpr (by omega)
section
variable {X : Cx}
theorem VRs.intsV {K : PySem.W.Frag} {F : Hp} {φ : List Addr} : ∀ {ns : List Int} {vs : List V}, VRs K F φ (ns.map D.int) vs → vs = ns.map V.int
  | [], _, .nil => rfl
  | n :: r, _, .cons h t => by
    cases h
    rw [VRs.intsV t]
    rfl
theorem od_leT (hu : X.A.units + 64 < cLine) : OD X (compareOp .LtE) oLeT := by
  intro F φ m H x y d vx vy rp rx ry h Q q
  unfold oLeT at h
  split at h
  · split at h
    · rename_i is js e1 e2
      split at h
      · rename_i hl
        cases h
        cases rx with
        | tup hx rxs =>
          cases ry with
          | tup hy rys =>
            rw [toInts_eq e1] at rxs
            rw [toInts_eq e2] at rys
            have a1 := VRs.intsV rxs
            have a2 := VRs.intsV rys
            subst a1
            subst a2
            refine ⟨_, op_leT (by omega), _, _, is, js, rfl, rfl, Evl.ex_t rp.ex hx, Evl.ex_t rp.ex hy, ?_⟩
            rw [lex_ok is js hl]
            exact same rp q (.bl _)
      · cases h
    · cases h
  · cases h
end
/-! text.count(t) -/
section
variable {X : Cx}
def sCount (s : List Nat) : Mem → List D → Option D
  | _, [.str t] => some (.int (Txt.count (S s) (S t)))
  | _, _ => none
theorem ms_count : MS X "str.count" sCount := by
  intro F φ m H s ds d vs rp r hh Q q
  unfold sCount at hh
  split at hh
  · cases hh
    obtain ⟨v, rfl, r0⟩ := r.one
    cases r0
    exact ⟨_, mt_count, _, _, rfl, rfl, same rp q (.int _)⟩
  · cases hh
end
end VI
end
section
namespace VI
open PySem PySem.Spec PyProof.Rows L2
section
variable {X : Cx} {a b c e f o tg i : Expr} {es : List Expr} {pos p apos cpos npos : Pos} {fa fb fe ff fo fi fk fx : EF} {fr : AF} {x name : Str}
/-! ### s.partition(t), s.endswith(t), s.removesuffix(t) -/
def partD (s t : List Nat) : List (List Nat) := [(Txt.partition (S s) (S t)).1.cps.toList, (Txt.partition (S s) (S t)).2.1.cps.toList, (Txt.partition (S s) (S t)).2.2.cps.toList]
def sPartition (s : List Nat) : Mem → List D → Option D
  | _, [.str t] => if t ≠ [] ∧ s.length ≤ 1000000 then some (.tup ((partD s t).map .str)) else none
  | _, _ => none
theorem ms_partition : MS X "str.partition" sPartition := by
  intro F φ m H s ds d vs rp r hh Q q
  unfold sPartition at hh
  split at hh
  · split at hh
    · rename_i t' hl
      cases hh
      obtain ⟨v, rfl, r0⟩ := r.one
      cases r0
      have esz : sizeLine = 16777216 := by decide
      refine ⟨_, mt_partition, S s, S t', rfl, rfl, ?_, ?_, fun p hp => ?_⟩
      · rw [S_len]
        cases t' with
        | nil => exact absurd rfl hl.1
        | cons a r => rfl
      · rw [S_len]; omega
      · have n := rp.frozen (o := .tup [.str (Txt.partition (S s) (S t')).1, .str (Txt.partition (S s) (S t')).2.1, .str (Txt.partition (S s) (S t')).2.2]) hp
        have h1 := VRs.strs (K := X.K) (F := upd F p (.tup [.str (Txt.partition (S s) (S t')).1, .str (Txt.partition (S s) (S t')).2.1, .str (Txt.partition (S s) (S t')).2.2])) (φ := φ) (partD s t')
        have e : ((partD s t').map S).map V.str = [.str (Txt.partition (S s) (S t')).1, .str (Txt.partition (S s) (S t')).2.1, .str (Txt.partition (S s) (S t')).2.2] := by
          unfold partD
          simp only [List.map_cons, List.map_nil, S_mk]
        rw [e] at h1
        exact q _ _ _ _ n (.tup (.inl (.inl upd_same)) h1)
    · cases hh
  · cases hh
def endsD (s t : List Nat) : Bool := Txt.endswith (S s) (S t)
theorem ms_endswith : MS X "str.endswith" (s1 fun s t => .bl (endsD s t)) := ms_s1 mt_endswith fun _ _ _ _ _ => .bl _
def sRemoveSuffix (s : List Nat) : Mem → List D → Option D
  | _, [.str t] => if s.length ≤ 16777216 then some (.str (Txt.removesuffix (S s) (S t)).cps.toList) else none
  | _, _ => none
theorem ms_removesuffix : MS X "str.removesuffix" sRemoveSuffix := by
  intro F φ m H s ds d vs rp r hh Q q
  unfold sRemoveSuffix at hh
  split at hh
  · split at hh
    · rename_i t' hl
      cases hh
      obtain ⟨v, rfl, r0⟩ := r.one
      cases r0
      refine ⟨_, mt_removesuffix, _, _, rfl, rfl, ?_, ?_⟩
      · rw [S_len]; exact hl
      · have e := S_mk (Txt.removesuffix (S s) (S t'))
        rw [← e]
        exact same rp q (.str _)
    · cases hh
  · cases hh
/-! ### divisors of any usual size -/
def oDivW : Mem → D → D → Option D
  | _, .int i, .int j => if 0 < j ∧ j < 1267650600228229401496703205376 then some (.int (i / j)) else none
  | _, _, _ => none
theorem od_divW : OD X (binaryOp .FloorDiv) oDivW := by
  intro F φ m H x y d vx vy rp rx ry h Q q
  unfold oDivW at h
  split at h
  · split at h
    · rename_i hj
      cases h; cases rx; cases ry
      refine ⟨_, op_fdivW, _, _, rfl, rfl, wide_div (b := 100) hj.1 ?_ (by decide) (by decide), same rp q (.int _)⟩
      have e : (2 : Nat) ^ 100 = 1267650600228229401496703205376 := by decide
      rw [e]; omega
    · cases h
  · cases h
/-! ### a dict of the module: k in D as a value, D.get(k, x) -/
theorem j_inK {kvs : List (List Nat × D)} (g : GDict X.K X.w X.mg x kvs) (hb : JE X b fb) (hg : Gl X x := by rfl) (hd : (x == ("__debug__" : Str)) = false := by decide) (hm : behindInMarks .In (.Name x npos) = false := by first | rfl | exact nomark _) :
    JE X (.Compare b [.In] [.Name x npos] pos) (eInK false kvs fb) := ⟨fun {F φ m H ρ σ d m'} rp er hf Q q => by
  obtain ⟨dd, es, n, h1, KD, hz⟩ := g
  refine we_of (pe_cmpR (op_in_kd KD) pe_w (pe_glob hg h1 (show RelV (.ref dd) (.ref dd) from rfl) hd) hm) ?_
  unfold eInK at hf
  split at hf
  · rename_i z m1 hh
    cases hf
    refine hb.run rp er hh _ fun F1 φ1 v H1 n1 r1 => ?_
    cases r1
    obtain ⟨r, e1, e2⟩ := gd_some hz z
    refine ⟨S z, r, rfl, rfl, e1, ?_⟩
    rw [e2]
    have q' := q _ _ (.bl (kvs.lookup z).isSome) _ n1 (by
      have : ((kvs.lookup z).isSome != false) = (kvs.lookup z).isSome := by cases (kvs.lookup z).isSome <;> rfl
      rw [this]
      exact .bl _)
    exact q'
  · cases hf⟩
def tKGet (d : Addr) (kvs : List (List Nat × D)) (K : PySem.W.Frag) (ty tx : TE) : TE := fun σ H Q => ty σ H fun y H2 => tx σ H2 fun z H3 => ∃ k : Str, ∃ r : Option Value, y = .str k ∧ PySem.W.nsIn K d k = some r ∧
  (r = none → Q z H3) ∧ (∀ u0, r = some u0 → ∃ v0, RelV v0 u0 ∧ Q v0 H3)
theorem pe_kget2 {X : Cx} {x : Str} {npos apos cpos : Pos} {e f : Expr} {ty tx : TE} {d : Addr} {es : Array DictEntry} {n : Nat} {kvs : List (List Nat × D)} (KD : KDict X.K X.w d es n) (hg : Gl X x) (h1 : X.mg x = some (.ref d)) (hd : (x == ("__debug__" : Str)) = false) (he : PE X e ty) (hf : PE X f tx) (m : M2 X (.Name x npos) "get" apos e f cpos) :
    PE X (.Call (.Attribute (.Name x npos) "get" apos) [e, f] [] cpos) (tKGet d kvs X.K ty tx) := by
  refine ⟨fun pins s σ H Q I h => ?_⟩
  have ho : PE X (.Name x npos) _ := pe_glob hg h1 (show RelV (.ref d) (.ref d) from rfl) hd
  refine wpAny_Call_method m.base m.few m.line PySem.F.plainAttrs_dict PySem.F.slot_dict_get PySem.F.type_dict_get (thn (ho.run pins s σ H (fun v H1 => v = .ref d ∧ H1 = H) I ⟨rfl, rfl⟩) fun u s1 ⟨xv, H1, I1, rx, ex, eH⟩ => ?_)
  subst ex
  subst eH
  obtain rfl : u = Value.ref d := rx
  refine ⟨kd_type KD I1, fun b q => ?_, ?_⟩
  · cases q
    exact ⟨_, I1.kIn _ _ KD.at_, rfl⟩
  rw [m.trees]
  refine Calls.callWith_builtin rfl (Calls.evalArgs_plain (Calls.spliced_cons (thn (he.run pins s1 σ H1 _ I1 h) fun iv s2 ⟨y, H2, I2, ry, q2⟩ =>
    Calls.spliced_cons (thn (hf.run pins s2 σ H2 _ I2 q2) fun fv s3 ⟨z, H3, I3, rz, k, r, ey, er, qn, qs⟩ => Calls.spliced_nil ?_))))
  subst ey
  obtain ⟨t, rfl⟩ := ry
  refine call_meetsIn PySem.F.slot_dict_get (kd_type KD I3) PySem.F.entry_dict_get (PySem.F.args_dict_get_3 _ _ _) (meets_dict_get_default (PySem.strKind X.prog X.w) d (PySem.strKind_is X.prog X.w k t) KD.low fv) ⟨_, PySem.W.mapOf_K (prog := X.prog) I3.kIn KD.at_ KD.lit, ?_⟩
  rw [PySem.W.find_K KD.at_ er]
  cases r with
  | none => exact ⟨z, H3, I3.tok _, rz, qn rfl⟩
  | some u0 =>
    obtain ⟨v0, r0, q0⟩ := qs u0 rfl
    exact ⟨v0, H3, I3.tok _, r0, q0⟩
def eGetK (kvs : List (List Nat × D)) (fk fx : EF) : EF := fun ρ m => match fk ρ m with
  | some (.str z, m1) => match fx ρ m1 with
    | some (y, m2) => some ((kvs.lookup z).getD y, m2)
    | none => none
  | _ => none
theorem j_getK {kvs : List (List Nat × D)} (g : GDict X.K X.w X.mg x kvs) (he : JE X e fe) (hf' : JE X f ff) (hg : Gl X x := by rfl) (hd : (x == ("__debug__" : Str)) = false := by decide) (hbase : attributeBase (.Name x npos) "get" X.env (eval (.Name x npos) X.env) = eval (.Name x npos) X.env := by rfl)
    (hfew : ((backTo cpos (starEach [e, f] X.env)).all (fun x => !x.1) && (backToKw cpos (keywordEach [] X.env)).all (fun x => x.1.isSome) && decide (([e, f] : List Expr).length + ([] : List Keyword).length + (if ([] : List Keyword).isEmpty then 0 else 1) < 30)) = true := by rfl)
    (hline : (apos.endLine == cpos.line) = true := by rfl) (htr : backTo cpos (starEach [e, f] X.env) = [(false, eval e X.env), (false, eval f X.env)] := by rfl) :
    JE X (.Call (.Attribute (.Name x npos) "get" apos) [e, f] [] cpos) (eGetK kvs fe ff) := ⟨fun {F φ m H ρ σ d m'} rp er hf Q q => by
  obtain ⟨dd, es, n, h1, KD, hz⟩ := g
  refine we_of (pe_kget2 (kvs := kvs) KD hg h1 hd pe_w pe_w ⟨hbase, hfew, hline, htr⟩) ?_
  unfold eGetK at hf
  split at hf
  · rename_i z m1 h2
    split at hf
    · rename_i y m2 h3
      cases hf
      refine he.run rp er h2 _ fun F1 φ1 v H1 n1 r1 => ?_
      cases r1
      refine hf'.run n1.rep (er.mono n1.exF n1.pre) h3 _ fun F2 φ2 v2 H2 n2 r2 => ?_
      have hz' := hz z
      cases hk : kvs.lookup z with
      | none =>
        rw [hk] at hz'
        refine ⟨S z, none, rfl, hz', fun _ => ?_, fun u0 h => by cases h⟩
        rw [hk] at q
        exact q _ _ _ _ (n1.trans n2) r2
      | some D =>
        rw [hk] at hz'
        obtain ⟨u, v, e1, e2, e3⟩ := hz'
        refine ⟨S z, some u, rfl, e1, fun h => (by cases h), fun u0 h => ?_⟩
        cases h
        rw [hk] at q
        exact ⟨v, e2, q _ _ _ _ (n1.trans n2) (e3 _ _)⟩
    · cases hf
  · cases hf⟩
end
end VI
end
section
namespace VI
open PySem PySem.Spec PyProof.Rows L2
section
variable {X : Cx}
/-- s.lstrip(t) -/
def sLstrip (s : List Nat) : Mem → List D → Option D
  | _, [.str t] => if s.length ≤ 16777216 then some (.str (Txt.lstripChars (S s) (S t)).cps.toList) else none
  | _, _ => none
theorem ms_lstrip : MS X "str.lstrip" sLstrip := by
  intro F φ m H s ds d vs rp r hh Q q
  unfold sLstrip at hh
  split at hh
  · split at hh
    · rename_i t' hl
      cases hh
      obtain ⟨v, rfl, r0⟩ := r.one
      cases r0
      refine ⟨_, mt_lstripChars, _, _, rfl, rfl, ?_, ?_⟩
      · rw [S_len]; exact hl
      · have e := S_mk (Txt.lstripChars (S s) (S t'))
        rw [← e]
        exact same rp q (.str _)
    · cases hh
  · cases hh
end
end VI
end
section
set_option maxHeartbeats 4000000
open PySem PySem.Spec PyProof.Rows L2 VI
namespace Law
def topS (i : Nat) : Stmt := PySem.Challenge.pw_freshpage_k21_looks_of_single_tags.main.body.getD i (.Pass ⟨0, 0, 0, 0⟩)
def lit3e26d6 : List Nat := [105, 110, 104, 101, 114, 105, 116]
def litc1d327 : List Nat := [97, 108, 105, 103, 110, 32, 98, 97, 99, 107, 32, 98, 111, 114, 100, 101, 114, 32, 99, 111, 108, 111, 114, 32, 100, 105, 115, 112, 108, 97, 121, 32, 100, 111, 119, 110, 32, 104, 105, 100, 101, 32, 108, 97, 121, 101, 114, 32, 109, 97, 114, 103, 105, 110, 32, 112, 97, 100, 32, 114, 105, 103, 104, 116, 32, 119, 105, 100, 116, 104]
def lita20a0f : List Nat := [99, 108, 101, 97, 114, 32, 98, 108, 97, 99, 107, 32, 114, 101, 100, 32, 103, 114, 101, 101, 110, 32, 98, 108, 117, 101]
def lita8567b : List Nat := [108, 101, 102, 116, 32, 99, 101, 110, 116, 101, 114, 32, 114, 105, 103, 104, 116]
def lit7da128 : List Nat := [98, 108, 97, 99, 107, 32, 114, 101, 100, 32, 103, 114, 101, 101, 110, 32, 98, 108, 117, 101]
def litb2e97e : List Nat := [98, 108, 111, 99, 107, 32, 105, 110, 108, 105, 110, 101, 32, 110, 111, 110, 101]
def lit59b189 : List Nat := [100, 105, 115, 112, 108, 97, 121]
def lit09a99f : List Nat := [109, 97, 114, 103, 105, 110, 115]
def lit759d34 : List Nat := [105, 110, 104, 101, 114, 105, 116, 101, 100]
def lit5a4984 : List Nat := [108, 101, 102, 116, 44, 32, 114, 105, 103, 104, 116]
def lit32f331 : List Nat := [112, 97, 100, 58, 32, 49, 59]
def lit082620 : List Nat := [32, 112, 97, 100, 58, 32, 49]
def lit676e45 : List Nat := [112, 97, 100, 58, 32, 49, 59, 32]
def litbb6193 : List Nat := [112, 97, 100, 58, 32, 49, 10]
def lit32d10c : List Nat := [97, 98, 99, 100, 101, 102, 103, 104, 105, 106, 107, 108, 109, 110, 111, 112, 113, 114, 115, 116, 117, 118, 119, 120, 121, 122]
def lited6597 : List Nat := [32, 97, 98, 122, 45, 48, 49, 57, 42, 35, 46, 91, 93, 61, 58, 59, 44, 62, 123, 125, 33, 10, 47, 65, 66, 116, 114, 34, 39, 40, 41, 60, 63, 64, 92, 94, 95, 96, 124, 126, 36, 38, 67, 90]
def lit43fe28 : List Nat := [99, 111, 108, 111, 114, 58, 32, 114, 101, 100]
def lit87acec : List Nat := [48, 49, 50, 51, 52, 53, 54, 55, 56, 57]
def lit6e3145 : List Nat := [97, 98, 99, 100, 101, 102, 103, 104, 105, 106, 107, 108, 109, 110, 111, 112, 113, 114, 115, 116, 117, 118, 119, 120, 121, 122, 45]
def k_FIGURES : D := (.str lit87acec)
def kd_WORDS : List (List Nat × D) := [([97, 108, 105, 103, 110], (.tup [(.str [108, 101, 102, 116]), (.str [99, 101, 110, 116, 101, 114]), (.str [114, 105, 103, 104, 116])])), ([98, 97, 99, 107], (.tup [(.str [99, 108, 101, 97, 114]), (.str [98, 108, 97, 99, 107]), (.str [114, 101, 100]), (.str [103, 114, 101, 101, 110]), (.str [98, 108, 117, 101])])), ([99, 111, 108, 111, 114], (.tup [(.str [98, 108, 97, 99, 107]), (.str [114, 101, 100]), (.str [103, 114, 101, 101, 110]), (.str [98, 108, 117, 101])])), (lit59b189, (.tup [(.str [98, 108, 111, 99, 107]), (.str [105, 110, 108, 105, 110, 101]), (.str [110, 111, 110, 101])])), ([104, 105, 100, 101], (.tup [(.str [121, 101, 115]), (.str [110, 111])])), ([119, 105, 100, 116, 104], (.tup [(.str [97, 117, 116, 111])]))]
def kd_BOUNDS : List (List Nat × D) := [([98, 111, 114, 100, 101, 114], (.tup [(.int 0), (.int 1)])), ([100, 111, 119, 110], (.tup [(.int (-50)), (.int 50)])), ([108, 97, 121, 101, 114], (.tup [(.int (-9)), (.int 9)])), ([109, 97, 114, 103, 105, 110], (.tup [(.int 0), (.int 20)])), ([112, 97, 100], (.tup [(.int 0), (.int 20)])), ([114, 105, 103, 104, 116], (.tup [(.int (-50)), (.int 50)])), ([119, 105, 100, 116, 104], (.tup [(.int 0), (.int 200)]))]
def k_MOST_PARTS : D := (.int 12)
def k_MOST_FIGURES : D := (.int 3)
def k_WORD_SIGNS : D := (.str lit6e3145)
def k_MOST_WORD_SIGNS : D := (.int 12)
def k_MOST_COMPOUNDS : D := (.int 4)
def k_MOST_VALUE_SIGNS : D := (.int 12)
def k_FIRST : D := (.str [58, 102, 105, 114, 115, 116])
def k_MOST_SELECTORS : D := (.int 6)
def k_MOST_DECLARATIONS : D := (.int 12)
def k_STRONG : D := (.str [32, 33])
def k_BARRED : D := (.tup [(.str [59]), (.str [123]), (.str [125]), (.str [10])])
/-! meanings -/
def b_number_of : BF := bSeq (bSet (gName 2) (eMS sRemovePrefix (eVar 0) (aCons (eC (.str [45])) (aNil)))) (bSeq (bIf (tOr (tV (eOp oEq (eVar 2) (eC (.str [])))) (tOr (tV (eOp oGt (eBlt bLen (aCons (eVar 2) (aNil))) (eVar 1))) (tV (eOp oNe (eMS sStrip (eVar 2) (aCons (eC k_FIGURES) (aNil))) (eC (.str [])))))) (bRet (eC .non)) (bNil)) (bSeq (bSet (gName 3) (eBlt bIntS (aCons (eVar 0) (aNil)))) (bRet (eIf (tV (eOp oEq (eBlt bStrI (aCons (eVar 3) (aNil))) (eVar 0))) (eVar 3) (eC .non)))))
def f_number_of : FD := fnD 2 4 b_number_of
def b_is_between : BF := bSeq (bSet (gTup 2 (gCons (gName 3) (gCons (gName 4) (gNil)))) (eVar 1)) (bSeq (bSet (gName 2) (eCall f_number_of (aCons (eVar 0) (aCons (eC k_MOST_FIGURES) (aNil))))) (bRet (eAnd (eOp oIsNot (eVar 2) (eC .non)) (eChain oLe oLe (eVar 3) (eVar 2) (eVar 4)))))
def f_is_between : FD := fnD 2 5 b_is_between
def b_is_part : BF := bSeq (bSet (gTup 3 (gCons (gName 1) (gCons (gName 2) (gCons (gName 3) (gNil))))) (eMS sPartition (eVar 0) (aCons (eC (.str [47])) (aNil)))) (bRet (eAnd (eCall f_is_between (aCons (eVar 3) (aCons (eTup (aCons (eC (.int 1)) (aCons (eC k_MOST_PARTS) (aNil)))) (aNil)))) (eCall f_is_between (aCons (eVar 1) (aCons (eTup (aCons (eC (.int 1)) (aCons (eBlt bIntS (aCons (eVar 3) (aNil))) (aNil)))) (aNil))))))
def f_is_part : FD := fnD 1 4 b_is_part
def b_has_value : BF := bSeq (bIf (tAnd (tV (eInK true kd_WORDS (eVar 0))) (tV (eInK true kd_BOUNDS (eVar 0)))) (bRet (eC (.bl false))) (bNil)) (bSeq (bIf (tOr (tV (eOp oEq (eVar 1) (eC (.str lit3e26d6)))) (tV (eOp oIn (eVar 1) (eGetK kd_WORDS (eVar 0) (eTup (aNil)))))) (bRet (eC (.bl true))) (bNil)) (bSeq (bIf (tAnd (tV (eOp oEq (eVar 0) (eC (.str [119, 105, 100, 116, 104])))) (tV (eOp oIn (eC (.str [47])) (eVar 1)))) (bRet (eCall f_is_part (aCons (eVar 1) (aNil)))) (bNil)) (bRet (eAnd (eInK false kd_BOUNDS (eVar 0)) (eCall f_is_between (aCons (eVar 1) (aCons (eIxK kd_BOUNDS (eVar 0)) (aNil))))))))
def f_has_value : FD := fnD 2 2 b_has_value
def b_run_at : BF := bSeq (bSet (gName 3) (eSl (eVar 0) (pSo (eVar 1)) (pNo))) (bRet (eSl (eVar 3) (pNo) (pSo (eOp oSub (eBlt bLen (aCons (eVar 3) (aNil))) (eBlt bLen (aCons (eMS sLstrip (eVar 3) (aCons (eVar 2) (aNil))) (aNil)))))))
def f_run_at : FD := fnD 3 4 b_run_at
def b_word_at : BF := bSeq (bSet (gName 2) (eCall f_run_at (aCons (eSl (eVar 0) (pSo (eVar 1)) (pSo (eOp oAdd (eOp oAdd (eVar 1) (eC k_MOST_WORD_SIGNS)) (eC (.int 1))))) (aCons (eC (.int 0)) (aCons (eC k_WORD_SIGNS) (aNil)))))) (bSeq (bIf (tOr (tV (eOp oGt (eBlt bLen (aCons (eVar 2) (aNil))) (eC k_MOST_WORD_SIGNS))) (tV (eMS (s1 fun s t => .bl (startsD s t)) (eVar 2) (aCons (eC (.str [45])) (aNil))))) (bRet (eC (.str []))) (bNil)) (bRet (eVar 2)))
def f_word_at : FD := fnD 2 3 b_word_at
def b_is_word : BF := bRet (eAnd (eOp oNe (eVar 0) (eC (.str []))) (eOp oEq (eCall f_word_at (aCons (eVar 0) (aCons (eC (.int 0)) (aNil)))) (eVar 0)))
def f_is_word : FD := fnD 1 1 b_is_word
def b_worth_test_at : BF := bSeq (bIf (tV (eMS sStarts3 (eVar 0) (aCons (eC (.str [93])) (aCons (eVar 2) (aNil))))) (bRet (eTup (aCons (eTup (aCons (eC (.str [91])) (aCons (eVar 1) (aCons (eC (.str [])) (aNil))))) (aCons (eOp oAdd (eVar 2) (eC (.int 1))) (aNil))))) (bNil)) (bSeq (bSet (gName 3) (eCall f_run_at (aCons (eVar 0) (aCons (eOp oAdd (eVar 2) (eC (.int 1))) (aCons (eOp oAdd (eC k_WORD_SIGNS) (eC k_FIGURES)) (aNil)))))) (bSeq (bIf (tOr (tV (eOp oEq (eVar 3) (eC (.str [])))) (tOr (tV (eOp oGt (eBlt bLen (aCons (eVar 3) (aNil))) (eC k_MOST_VALUE_SIGNS))) (tNot (tV (eMS sStarts3 (eVar 0) (aCons (eFmt [eC (.str [61]), eStr (eVar 3), eC (.str [93])]) (aCons (eVar 2) (aNil)))))))) (bRet (eC .non)) (bNil)) (bRet (eTup (aCons (eTup (aCons (eC (.str [61])) (aCons (eVar 1) (aCons (eVar 3) (aNil))))) (aCons (eOp oAdd (eOp oAdd (eVar 2) (eBlt bLen (aCons (eVar 3) (aNil)))) (eC (.int 2))) (aNil)))))))
def f_worth_test_at : FD := fnD 3 4 b_worth_test_at
def b_test_at : BF := bSeq (bIf (tV (eMS sStarts3 (eVar 0) (aCons (eC k_FIRST) (aCons (eVar 1) (aNil))))) (bRet (eTup (aCons (eTup (aCons (eC k_FIRST) (aCons (eC (.str [])) (aCons (eC (.str [])) (aNil))))) (aCons (eOp oAdd (eVar 1) (eBlt bLen (aCons (eC k_FIRST) (aNil)))) (aNil))))) (bNil)) (bSeq (bSet (gName 2) (eCall f_word_at (aCons (eVar 0) (aCons (eOp oAdd (eVar 1) (eC (.int 1))) (aNil))))) (bSeq (bSet (gName 3) (eOp oAdd (eOp oAdd (eVar 1) (eC (.int 1))) (eBlt bLen (aCons (eVar 2) (aNil))))) (bSeq (bIf (tV (eOp oEq (eVar 2) (eC (.str [])))) (bRet (eC .non)) (bNil)) (bSeq (bIf (tV (eOp oEq (eOp oIx (eVar 0) (eVar 1)) (eC (.str [35])))) (bRet (eTup (aCons (eTup (aCons (eC (.str [35])) (aCons (eC (.str [105, 100])) (aCons (eVar 2) (aNil))))) (aCons (eVar 3) (aNil))))) (bNil)) (bSeq (bIf (tV (eOp oEq (eOp oIx (eVar 0) (eVar 1)) (eC (.str [46])))) (bRet (eTup (aCons (eTup (aCons (eC (.str [46])) (aCons (eC (.str [99, 108, 97, 115, 115])) (aCons (eVar 2) (aNil))))) (aCons (eVar 3) (aNil))))) (bNil)) (bRet (eIf (tV (eOp oEq (eOp oIx (eVar 0) (eVar 1)) (eC (.str [91])))) (eCall f_worth_test_at (aCons (eVar 0) (aCons (eVar 2) (aCons (eVar 3) (aNil))))) (eC .non))))))))
def f_test_at : FD := fnD 2 4 b_test_at
def b_compound_of : BF := bSeq (bSet (gName 1) (eCall f_word_at (aCons (eVar 0) (aCons (eC (.int 0)) (aNil))))) (bSeq (bSet (gName 2) (eCel (aNil))) (bSeq (bSet (gName 3) (eIf (tV (eMS (s1 fun s t => .bl (startsD s t)) (eVar 0) (aCons (eC (.str [42])) (aNil)))) (eC (.int 1)) (eBlt bLen (aCons (eVar 1) (aNil))))) (bSeq (whileV (tV (eOp oLt (eVar 3) (eBlt bLen (aCons (eVar 0) (aNil))))) (bSeq (bSet (gName 4) (eCall f_test_at (aCons (eVar 0) (aCons (eVar 3) (aNil))))) (bSeq (bIf (tV (eOp oIs (eVar 4) (eC .non))) (bRet (eC .non)) (bNil)) (bSeq (bSet (gTup 2 (gCons (gName 5) (gCons (gName 3) (gNil)))) (eVar 4)) (bDrop (eApp (eVar 2) (eVar 5)))))) fuel) (bRet (eIf (tV (eOp oEq (eVar 0) (eC (.str [])))) (eC .non) (eTup (aCons (eVar 1) (aCons (eFrz (eVar 2)) (aNil)))))))))
def f_compound_of : FD := fnD 1 6 b_compound_of
def b_compounds_of : BF := bSeq (bSet (gName 2) (eCel (aNil))) (bSeq (bFor (aIt (eMS sSplit (eVar 0) (aCons (eC (.str [32, 62, 32])) (aNil)))) (gName 3) (bFor (aEnum (eMS sSplit (eVar 3) (aCons (eC (.str [32])) (aNil)))) (gTup 2 (gCons (gName 4) (gCons (gName 5) (gNil)))) (bSeq (bIf (tV (eDNotIn (eVar 5) (eVar 1))) (bSet (gDix (eVar 1) (eVar 5)) (eCall f_compound_of (aCons (eVar 5) (aNil)))) (bNil)) (bSeq (bIf (tOr (tV (eOp oIs (eDIx (eVar 1) (eVar 5)) (eC .non))) (tV (eOp oEq (eBlt bLen (aCons (eVar 2) (aNil))) (eC k_MOST_COMPOUNDS)))) (bRet (eC .non)) (bNil)) (bDrop (eApp (eVar 2) (eTup (aFew (aCons (eOp oEq (eVar 4) (eC (.int 0))) (aStar (eDIx (eVar 1) (eVar 5)) (aNil))))))))))) (bRet (eFrz (eVar 2))))
def f_compounds_of : FD := fnD 2 6 b_compounds_of
def b_is_value : BF := bSeq (bIf (tOr (tV (eOp oEq (eVar 0) (eC (.str [])))) (tV (eOp oNe (eMS sStrip (eVar 0) (aCons (eC (.str [32])) (aNil))) (eVar 0)))) (bRet (eC (.bl false))) (bNil)) (bSeq (bFor (aIt (eC k_BARRED)) (gName 1) (bIf (tV (eOp oIn (eVar 1) (eVar 0))) (bRet (eC (.bl false))) (bNil))) (bRet (eC (.bl true))))
def f_is_value : FD := fnD 1 2 b_is_value
def b_declaration_of : BF := bSeq (bSet (gTup 3 (gCons (gName 3) (gCons (gName 4) (gCons (gName 2) (gNil))))) (eMS sPartition (eVar 0) (aCons (eC (.str [58, 32])) (aNil)))) (bSeq (bSet (gName 1) (eMS (s1 fun s t => .bl (endsD s t)) (eVar 2) (aCons (eC k_STRONG) (aNil)))) (bSeq (bSet (gName 2) (eMS sRemoveSuffix (eVar 2) (aCons (eC k_STRONG) (aNil)))) (bSeq (bIf (tOr (tNot (tV (eCall f_is_word (aCons (eVar 3) (aNil))))) (tNot (tV (eCall f_is_value (aCons (eVar 2) (aNil)))))) (bRet (eTup (aCons (eC (.bl false)) (aCons (eC .non) (aNil))))) (bNil)) (bRet (eTup (aCons (eC (.bl true)) (aCons (eIf (tV (eCall f_has_value (aCons (eVar 3) (aCons (eVar 2) (aNil))))) (eTup (aCons (eVar 3) (aCons (eVar 2) (aCons (eVar 1) (aNil))))) (eC .non)) (aNil))))))))
def f_declaration_of : FD := fnD 1 5 b_declaration_of
def b_declarations_of : BF := bSeq (bSet (gName 2) (eMS sSplit (eVar 0) (aCons (eC (.str [59, 32])) (aNil)))) (bSeq (bIf (tV (eOp oGt (eBlt bLen (aCons (eVar 2) (aNil))) (eC k_MOST_DECLARATIONS))) (bRet (eC .non)) (bNil)) (bSeq (bSet (gName 3) (eCel (aNil))) (bSeq (bFor (aIt (eVar 2)) (gName 4) (bSeq (bIf (tV (eDNotIn (eVar 4) (eVar 1))) (bSet (gDix (eVar 1) (eVar 4)) (eCall f_declaration_of (aCons (eVar 4) (aNil)))) (bNil)) (bSeq (bSet (gTup 2 (gCons (gName 5) (gCons (gName 6) (gNil)))) (eDIx (eVar 1) (eVar 4))) (bSeq (bIf (tNot (tTr (eVar 5))) (bRet (eC .non)) (bNil)) (bDrop (eApp (eVar 3) (eVar 6))))))) (bRet (eVar 3)))))
def f_declarations_of : FD := fnD 2 7 b_declarations_of
def b_selectors_of : BF := bSeq (bSet (gName 2) (eMS sSplit (eVar 0) (aCons (eC (.str [44, 32])) (aNil)))) (bSeq (bIf (tV (eOp oGt (eBlt bLen (aCons (eVar 2) (aNil))) (eC k_MOST_SELECTORS))) (bRet (eC .non)) (bNil)) (bSeq (bFor (aIt (eVar 2)) (gName 3) (bIf (tV (eOp oIs (eCall f_compounds_of (aCons (eVar 3) (aCons (eVar 1) (aNil)))) (eC .non))) (bRet (eC .non)) (bNil))) (bRet (eVar 2))))
def f_selectors_of : FD := fnD 2 4 b_selectors_of
def b_rule_of : BF := bSeq (bSet (gTup 3 (gCons (gName 5) (gCons (gName 6) (gCons (gName 7) (gNil))))) (eMS sPartition (eVar 0) (aCons (eC (.str [32, 123, 32])) (aNil)))) (bSeq (bIf (tNot (tV (eMS (s1 fun s t => .bl (endsD s t)) (eVar 7) (aCons (eC (.str [32, 125])) (aNil))))) (bRet (eC .non)) (bNil)) (bSeq (bSet (gName 3) (eCall f_selectors_of (aCons (eVar 5) (aCons (eVar 1) (aNil))))) (bSeq (bIf (tV (eOp oIs (eVar 3) (eC .non))) (bRet (eC .non)) (bNil)) (bSeq (bSet (gName 4) (eCall f_declarations_of (aCons (eMS sRemoveSuffix (eVar 7) (aCons (eC (.str [32, 125])) (aNil))) (aCons (eVar 2) (aNil))))) (bRet (eIf (tV (eOp oIs (eVar 4) (eC .non))) (eC .non) (eTup (aCons (eVar 3) (aCons (eVar 4) (aNil))))))))))
def f_rule_of : FD := fnD 3 8 b_rule_of
def b_rules_of : BF := bSeq (bSet (gName 1) (eDict0)) (bSeq (bSet (gName 2) (eDict0)) (bRet (eComp [3] (aIt (eMS sSplit (eVar 0) (aCons (eC (.str [10])) (aNil)))) (gName 3) (tYes) (eCall f_rule_of (aCons (eVar 3) (aCons (eVar 1) (aCons (eVar 2) (aNil))))))))
def f_rules_of : FD := fnD 1 4 b_rules_of
def b_own_declarations : BF := bSeq (bSet (gName 2) (eCall f_declarations_of (aCons (eVar 0) (aCons (eVar 1) (aNil))))) (bRet (eIf (tV (eOp oIs (eVar 2) (eC .non))) (eCel (aNil)) (eVar 2)))
def f_own_declarations : FD := fnD 2 3 b_own_declarations
def b_own_rules : BF := bRet (eCall f_own_declarations (aCons (eVar 0) (aCons (eDict0) (aNil))))
def f_own_rules : FD := fnD 1 1 b_own_rules
def b__law_bag : BF := bSeq (bSet (gName 1) (eC (.int 31))) (bSeq (bFor (aIt (eSl (eVar 0) (pNo) (pSo (eC (.int 63))))) (gName 2) (bSet (gName 1) (eOp oMod (eOp oAdd (eOp oAdd (eOp oMul (eVar 1) (eC (.int 48271))) (eOp oMod (eVar 2) (eC (.int 2147483629)))) (eC (.int 1))) (eC (.int 2147483647))))) (bRet (eCel (aCons (eComp [2] (aIt (eSl (eVar 0) (pNo) (pSo (eC (.int 63))))) (gName 2) (tYes) (eOp oMod (eBlt bAbs (aCons (eVar 2) (aNil))) (eOp oPow (eOp oPow (eC (.int 10)) (eC (.int 60))) (eC (.int 10))))) (aCons (eC (.int 0)) (aCons (eC (.int 0)) (aCons (eVar 1) (aCons (eC (.int 0)) (aNil)))))))))
def f__law_bag : FD := fnD 1 3 b__law_bag
def b__law_stirred : BF := bSeq (bSet (gName 2) (eC (.int 0))) (bSeq (bFor (aRng1 (eOp oAdd (eC (.int 1)) (eOp oDiv (eBits (eVar 1)) (eC (.int 27))))) (gName 3) (bSeq (bSet (gIx (eVar 0) (eC (.int 4))) (eOp oAdd (eOp oIx (eVar 0) (eC (.int 4))) (eC (.int 1)))) (bSeq (bSet (gIx (eVar 0) (eC (.int 3))) (eOp oMod (eOp oAdd (eOp oAdd (eOp oAdd (eOp oPow (eOp oIx (eVar 0) (eC (.int 3))) (eC (.int 3))) (eOp oMul (eC (.int 69621)) (eOp oIx (eVar 0) (eC (.int 3))))) (eOp oMul (eC (.int 1031)) (eOp oIx (eVar 0) (eC (.int 4))))) (eC (.int 1))) (eC (.int 2147483647)))) (bSet (gName 2) (eOp oAdd (eOp oMul (eVar 2) (eC (.int 134217728))) (eOp oDiv (eOp oIx (eVar 0) (eC (.int 3))) (eC (.int 16)))))))) (bRet (eOp oMod (eVar 2) (eVar 1))))
def f__law_stirred : FD := fnD 2 4 b__law_stirred
def b__law_draw : BF := bSeq (bIf (tAnd (tV (eOp oEq (eOp oIx (eVar 0) (eC (.int 2))) (eC (.int 0)))) (tV (eOp oLt (eOp oIx (eVar 0) (eC (.int 1))) (eBlt bLen (aCons (eOp oIx (eVar 0) (eC (.int 0))) (aNil)))))) (bSeq (bSet (gIx (eVar 0) (eC (.int 2))) (eOp oIx (eOp oIx (eVar 0) (eC (.int 0))) (eOp oIx (eVar 0) (eC (.int 1))))) (bSet (gIx (eVar 0) (eC (.int 1))) (eOp oAdd (eOp oIx (eVar 0) (eC (.int 1))) (eC (.int 1))))) (bIf (tV (eOp oEq (eOp oIx (eVar 0) (eC (.int 2))) (eC (.int 0)))) (bRet (eCall f__law_stirred (aCons (eVar 0) (aCons (eVar 1) (aNil))))) (bNil))) (bSeq (bSet (gName 2) (eOp oMod (eOp oIx (eVar 0) (eC (.int 2))) (eVar 1))) (bSeq (bSet (gIx (eVar 0) (eC (.int 2))) (eOp oDivW (eOp oIx (eVar 0) (eC (.int 2))) (eVar 1))) (bRet (eVar 2))))
def f__law_draw : FD := fnD 2 3 b__law_draw
def b__law_alike (r : FD) : BF := bSeq (bIf (tV (eIsi2 (eVar 1) "list" "tuple")) (bSeq (bIf (tOr (tNot (tV (eIsi2 (eVar 0) "list" "tuple"))) (tV (eOp oNe (eBlt bIsi (aCons (eVar 0) (aCons (eC (.ty "list")) (aNil)))) (eBlt bIsi (aCons (eVar 1) (aCons (eC (.ty "list")) (aNil))))))) (bRet (eC (.bl false))) (bNil)) (bSeq (bIf (tV (eOp oNe (eBlt bLen (aCons (eVar 0) (aNil))) (eBlt bLen (aCons (eVar 1) (aNil))))) (bRet (eC (.bl false))) (bNil)) (bRet (eBlt bAll (aCons (eComp [2] (aRng1 (eBlt bLen (aCons (eVar 1) (aNil)))) (gName 2) (tYes) (eCall r (aCons (eOp oIx (eVar 0) (eVar 2)) (aCons (eOp oIx (eVar 1) (eVar 2)) (aNil))))) (aNil)))))) (bNil)) (bSeq (bIf (tOr (tV (eOp oNe (eBlt bIsi (aCons (eVar 0) (aCons (eC (.ty "bool")) (aNil)))) (eBlt bIsi (aCons (eVar 1) (aCons (eC (.ty "bool")) (aNil)))))) (tV (eOp oNe (eBlt bIsi (aCons (eVar 0) (aCons (eC (.ty "int")) (aNil)))) (eBlt bIsi (aCons (eVar 1) (aCons (eC (.ty "int")) (aNil))))))) (bRet (eC (.bl false))) (bNil)) (bRet (eAnd (eOp oEq (eBlt bIsi (aCons (eVar 0) (aCons (eC (.ty "str")) (aNil)))) (eBlt bIsi (aCons (eVar 1) (aCons (eC (.ty "str")) (aNil))))) (eOp oEq (eVar 0) (eVar 1)))))
def g__law_alike (r : FD) : FD := fnD 2 3 (b__law_alike r)
def f__law_alike : FD := recD g__law_alike 6
def b__law_bounds : BF := bSeq (bSet (gName 1) (eDict (dCons (eC (.str [100, 111, 119, 110])) (eTup (aCons (eUn oNeg (eC (.int 50))) (aCons (eC (.int 50)) (aNil)))) (dCons (eC (.str [108, 97, 121, 101, 114])) (eTup (aCons (eUn oNeg (eC (.int 9))) (aCons (eC (.int 9)) (aNil)))) (dCons (eC (.str [109, 97, 114, 103, 105, 110])) (eTup (aCons (eC (.int 0)) (aCons (eC (.int 20)) (aNil)))) (dCons (eC (.str [112, 97, 100])) (eTup (aCons (eC (.int 0)) (aCons (eC (.int 20)) (aNil)))) (dCons (eC (.str [114, 105, 103, 104, 116])) (eTup (aCons (eUn oNeg (eC (.int 50))) (aCons (eC (.int 50)) (aNil)))) (dNil)))))))) (bRet (eGet2 (eVar 1) (eVar 0) (eTup (aCons (eC (.int 0)) (aCons (eC (.int 200)) (aNil))))))
def f__law_bounds : FD := fnD 1 2 b__law_bounds
def b__law_props : BF := bRet (eMS sSplit (eC (.str litc1d327)) (aCons (eC (.str [32])) (aNil)))
def f__law_props : FD := fnD 0 0 b__law_props
def b__law_choices : BF := bSeq (bSet (gName 1) (eDict (dCons (eC (.str [97, 108, 105, 103, 110])) (eC (.str lita8567b)) (dCons (eC (.str [98, 97, 99, 107])) (eC (.str lita20a0f)) (dCons (eC (.str [98, 111, 114, 100, 101, 114])) (eC (.str [48, 32, 49])) (dNil)))))) (bSeq (bSet (gDix (eVar 1) (eC (.str [99, 111, 108, 111, 114]))) (eC (.str lit7da128))) (bSeq (bSet (gDix (eVar 1) (eC (.str lit59b189))) (eC (.str litb2e97e))) (bSeq (bSet (gDix (eVar 1) (eC (.str [104, 105, 100, 101]))) (eC (.str [110, 111, 32, 121, 101, 115]))) (bRet (eComp [2] (aIt (eMS sSplit (eGet2 (eVar 1) (eVar 0) (eC (.str []))) (aCons (eC (.str [32])) (aNil)))) (gName 2) (tV (eOp oNe (eVar 2) (eC (.str [])))) (eVar 2))))))
def f__law_choices : FD := fnD 1 3 b__law_choices
def b__law_value : BF := bSeq (bSet (gName 2) (eCall f__law_choices (aCons (eVar 1) (aNil)))) (bSeq (bIf (tV (eNeNil (eVar 2))) (bRet (eOp oIx (eVar 2) (eCall f__law_draw (aCons (eVar 0) (aCons (eBlt bLen (aCons (eVar 2) (aNil))) (aNil)))))) (bNil)) (bSeq (bSet (gName 3) (eOp oAdd (eC (.int 1)) (eCall f__law_draw (aCons (eVar 0) (aCons (eC (.int 12)) (aNil)))))) (bSeq (bSet (gName 4) (eCall f__law_draw (aCons (eVar 0) (aCons (eC (.int 4)) (aNil))))) (bSeq (bIf (tAnd (tV (eOp oEq (eVar 1) (eC (.str [119, 105, 100, 116, 104])))) (tV (eOp oLt (eVar 4) (eC (.int 2))))) (bRet (eOp oIx (eLst (aCons (eC (.str [97, 117, 116, 111])) (aCons (eOp oAdd (eOp oAdd (eBlt bStrI (aCons (eOp oAdd (eC (.int 1)) (eCall f__law_draw (aCons (eVar 0) (aCons (eVar 3) (aNil))))) (aNil))) (eC (.str [47]))) (eBlt bStrI (aCons (eVar 3) (aNil)))) (aNil)))) (eVar 4))) (bNil)) (bSeq (bSet (gTup 2 (gCons (gName 5) (gCons (gName 6) (gNil)))) (eCall f__law_bounds (aCons (eVar 1) (aNil)))) (bRet (eBlt bStrI (aCons (eOp oAdd (eVar 5) (eCall f__law_draw (aCons (eVar 0) (aCons (eOp oAdd (eOp oSub (eVar 6) (eVar 5)) (eC (.int 1))) (aNil))))) (aNil)))))))))
def f__law_value : FD := fnD 2 7 b__law_value
def b__law_no_value : BF := bSeq (bIf (tV (eOp oEq (eCall f__law_draw (aCons (eVar 0) (aCons (eC (.int 3)) (aNil)))) (eC (.int 0)))) (bRet (eTup (aCons (eOp oIx (eLst (aCons (eC (.str [99, 111, 108, 111, 114, 115])) (aCons (eC (.str lit09a99f)) (aCons (eC (.str [122])) (aCons (eC (.str [119, 105, 100, 116])) (aCons (eC (.str [108, 111, 111, 107])) (aCons (eC (.str [105, 100])) (aCons (eC (.str [97, 108, 105, 103, 110, 115])) (aNil))))))))) (eCall f__law_draw (aCons (eVar 0) (aCons (eC (.int 7)) (aNil))))) (aCons (eC (.str [114, 101, 100])) (aNil))))) (bNil)) (bSeq (bSet (gName 2) (eLst (aCons (eC (.str [45, 48])) (aCons (eC (.str [48, 48])) (aCons (eC (.str [48, 49])) (aCons (eC (.str [43, 49])) (aCons (eC (.str [49, 46, 48])) (aCons (eC (.str [49, 32, 48])) (aCons (eC (.str [114, 101, 100, 33])) (aCons (eC (.str [33])) (aCons (eC (.str lit759d34)) (aCons (eC (.str [65, 117, 116, 111])) (aCons (eC (.str [49, 47, 48])) (aCons (eC (.str [48, 47, 49])) (aCons (eC (.str [49, 51, 47, 49, 51])) (aNil)))))))))))))))) (bSeq (bSet (gName 2) (eOp oAdd (eVar 2) (eLst (aCons (eC (.str [49, 47, 50, 47, 51])) (aCons (eC (.str [47])) (aCons (eC (.str [45, 49, 47, 50])) (aCons (eC (.str [48, 49, 47, 50])) (aCons (eC (.str [110, 111, 32, 110, 101])) (aCons (eC (.str [35, 49])) (aCons (eC (.str [49, 47])) (aCons (eC (.str [45, 45, 49])) (aCons (eC (.str lit5a4984)) (aCons (eC (.str [49, 58, 32, 50])) (aCons (eOp oMul (eC (.str [57])) (eC (.int 19))) (aNil))))))))))))))) (bSeq (bSet (gTup 2 (gCons (gName 3) (gCons (gName 4) (gNil)))) (eCall f__law_bounds (aCons (eVar 1) (aNil)))) (bSeq (bSet (gName 2) (eOp oAdd (eVar 2) (eLst (aCons (eC (.str [50, 47, 49])) (aCons (eC (.str [49, 47, 49, 51])) (aCons (eBlt bStrI (aCons (eOp oAdd (eBlt bMax2 (aCons (eVar 4) (aCons (eC (.int 1)) (aNil)))) (eC (.int 1))) (aNil))) (aCons (eBlt bStrI (aCons (eOp oSub (eBlt bMin2 (aCons (eVar 3) (aCons (eC (.int 0)) (aNil)))) (eC (.int 1))) (aNil))) (aNil)))))))) (bSeq (bSet (gName 2) (eOp oAdd (eVar 2) (eLst (aCons (eC (.str [39, 120, 39])) (aCons (eC (.str [114, 103, 98, 40, 48, 41])) (aCons (eC (.str [97, 95, 98])) (aCons (eC (.str [120, 32, 38, 32, 121])) (aCons (eC (.str [82, 101, 100])) (aCons (eOp oMul (eC (.str [120])) (eC (.int 200))) (aNil)))))))))) (bRet (eTup (aCons (eVar 1) (aCons (eOp oIx (eVar 2) (eCall f__law_draw (aCons (eVar 0) (aCons (eBlt bLen (aCons (eVar 2) (aNil))) (aNil))))) (aNil))))))))))
def f__law_no_value : FD := fnD 2 5 b__law_no_value
def b__law_declaration : BF := bSeq (bSet (gName 1) (eOp oIx (eCall f__law_props aNil) (eCall f__law_draw (aCons (eVar 0) (aCons (eC (.int 12)) (aNil)))))) (bSeq (bSet (gName 2) (eOp oEq (eCall f__law_draw (aCons (eVar 0) (aCons (eC (.int 4)) (aNil)))) (eC (.int 3)))) (bSeq (bSet (gName 3) (eCall f__law_draw (aCons (eVar 0) (aCons (eC (.int 10)) (aNil))))) (bSeq (bIf (tV (eOp oEq (eVar 3) (eC (.int 9)))) (bRet (eOp oAdd (eCall f__law_no_value (aCons (eVar 0) (aCons (eVar 1) (aNil)))) (eTup (aCons (eVar 2) (aCons (eC (.bl false)) (aNil)))))) (bNil)) (bRet (eTup (aCons (eVar 1) (aCons (eIf (tV (eOp oEq (eVar 3) (eC (.int 8)))) (eC (.str lit3e26d6)) (eCall f__law_value (aCons (eVar 0) (aCons (eVar 1) (aNil))))) (aCons (eVar 2) (aCons (eC (.bl true)) (aNil))))))))))
def f__law_declaration : FD := fnD 1 4 b__law_declaration
def b__law_declared : BF := bRet (eOp oAdd (eOp oAdd (eOp oAdd (eOp oIx (eVar 0) (eC (.int 0))) (eC (.str [58, 32]))) (eOp oIx (eVar 0) (eC (.int 1)))) (eOp oIx (eLst (aCons (eC (.str [])) (aCons (eC (.str [32, 33])) (aNil)))) (eBlt bInt (aCons (eOp oIx (eVar 0) (eC (.int 2))) (aNil)))))
def f__law_declared : FD := fnD 1 1 b__law_declared
def b__law_own_look : BF := bSeq (bIf (tV (eOp oEq (eCall f__law_draw (aCons (eVar 0) (aCons (eC (.int 8)) (aNil)))) (eC (.int 7)))) (bSeq (bSet (gName 4) (eLst (aCons (eC (.str [])) (aCons (eC (.str lit32f331)) (aCons (eC (.str [112, 97, 100, 58, 49])) (aCons (eC (.str lit082620)) (aCons (eC (.str lit676e45)) (aCons (eC (.str [80, 97, 100, 58, 32, 49])) (aCons (eC (.str [112, 97, 100, 58, 32])) (aCons (eC (.str litbb6193)) (aNil))))))))))) (bSeq (bSet (gName 3) (eOp oIx (eVar 4) (eCall f__law_draw (aCons (eVar 0) (aCons (eC (.int 8)) (aNil)))))) (bSeq (bSet (gDix (eVar 1) (eVar 3)) (eLst (aNil))) (bRet (eVar 3))))) (bNil)) (bSeq (bSet (gName 2) (eComp [5] (aRng1 (eOp oIx (eLst (aCons (eC (.int 1)) (aCons (eC (.int 2)) (aCons (eC (.int 3)) (aCons (eC (.int 4)) (aCons (eC (.int 1)) (aCons (eC (.int 12)) (aNil)))))))) (eCall f__law_draw (aCons (eVar 0) (aCons (eC (.int 6)) (aNil)))))) (gName 5) (tYes) (eCall f__law_declaration (aCons (eVar 0) (aNil))))) (bSeq (bSet (gName 3) (eMS sJoin (eC (.str [59, 32])) (aCons (eComp [6] (aIt (eVar 2)) (gName 6) (tYes) (eCall f__law_declared (aCons (eVar 6) (aNil)))) (aNil)))) (bSeq (bSet (gDix (eVar 1) (eVar 3)) (eVar 2)) (bRet (eVar 3)))))
def f__law_own_look : FD := fnD 2 7 b__law_own_look
def b__law_is_word : BF := bSeq (bSet (gName 1) (eC (.str lit32d10c))) (bSeq (bSet (gName 2) (eComp [3] (aIt (eVar 0)) (gName 3) (tV (eOp oNotIn (eVar 3) (eOp oAdd (eVar 1) (eC (.str [45]))))) (eVar 3))) (bRet (eAnd (eChain oLt oLt (eC (.int 0)) (eBlt bLen (aCons (eVar 0) (aNil))) (eC (.int 13))) (eAnd (eEqNil (eVar 2)) (eOp oNe (eOp oIx (eVar 0) (eC (.int 0))) (eC (.str [45])))))))
def f__law_is_word : FD := fnD 1 4 b__law_is_word
def b__law_values : BF := bSeq (bIf (tV (eOp oNotIn (eVar 0) (eCall f__law_props aNil))) (bRet (eLst (aNil))) (bNil)) (bSeq (bSet (gName 1) (eOp oAdd (eLst (aCons (eC (.str lit3e26d6)) (aNil))) (eCall f__law_choices (aCons (eVar 0) (aNil))))) (bSeq (bIf (tV (eOp oGt (eBlt bLen (aCons (eVar 1) (aNil))) (eC (.int 1)))) (bRet (eVar 1)) (bNil)) (bSeq (bSet (gTup 2 (gCons (gName 3) (gCons (gName 4) (gNil)))) (eCall f__law_bounds (aCons (eVar 0) (aNil)))) (bSeq (bSet (gName 1) (eOp oAdd (eVar 1) (eComp [5] (aRng2 (eVar 3) (eOp oAdd (eVar 4) (eC (.int 1)))) (gName 5) (tYes) (eBlt bStrI (aCons (eVar 5) (aNil)))))) (bSeq (bFor (aRng2 (eC (.int 1)) (eOp oMul (eC (.int 13)) (eBlt bInt (aCons (eOp oEq (eVar 0) (eC (.str [119, 105, 100, 116, 104]))) (aNil))))) (gName 2) (bSet (gName 1) (eOp oAdd (eOp oAdd (eVar 1) (eLst (aCons (eC (.str [97, 117, 116, 111])) (aNil)))) (eComp [6] (aRng2 (eC (.int 1)) (eOp oAdd (eVar 2) (eC (.int 1)))) (gName 6) (tYes) (eOp oAdd (eOp oAdd (eBlt bStrI (aCons (eVar 6) (aNil))) (eC (.str [47]))) (eBlt bStrI (aCons (eVar 2) (aNil)))))))) (bRet (eVar 1)))))))
def f__law_values : FD := fnD 1 7 b__law_values
def b__law_declaration_of : BF := bSeq (bSet (gName 1) (eMS sFind (eVar 0) (aCons (eC (.str [58, 32])) (aNil)))) (bSeq (bIf (tOr (tV (eOp oLt (eVar 1) (eC (.int 0)))) (tNot (tV (eCall f__law_is_word (aCons (eSl (eVar 0) (pNo) (pSo (eVar 1))) (aNil)))))) (bRet (eC .non)) (bNil)) (bSeq (bSet (gName 2) (eSl (eVar 0) (pSo (eOp oAdd (eVar 1) (eC (.int 2)))) (pNo))) (bSeq (bSet (gName 3) (eMS (s1 fun s t => .bl (endsD s t)) (eVar 2) (aCons (eC (.str [32, 33])) (aNil)))) (bSeq (bIf (tTr (eVar 3)) (bSet (gName 2) (eSl (eVar 2) (pNo) (pSo (eOp oSub (eBlt bLen (aCons (eVar 2) (aNil))) (eC (.int 2)))))) (bNil)) (bSeq (bSet (gName 4) (eComp [5] (aIt (eVar 2)) (gName 5) (tV (eOp oIn (eVar 5) (eC (.str [59, 123, 125, 10])))) (eVar 5))) (bSeq (bIf (tOr (tV (eOp oEq (eVar 2) (eC (.str [])))) (tOr (tV (eOp oEq (eOp oIx (eVar 2) (eC (.int 0))) (eC (.str [32])))) (tOr (tV (eOp oEq (eOp oIx (eVar 2) (eUn oNeg (eC (.int 1)))) (eC (.str [32])))) (tV (eNeNil (eVar 4)))))) (bRet (eC .non)) (bNil)) (bRet (eTup (aCons (eSl (eVar 0) (pNo) (pSo (eVar 1))) (aCons (eVar 2) (aCons (eVar 3) (aNil))))))))))))
def f__law_declaration_of : FD := fnD 1 6 b__law_declaration_of
def b__law_declarations_of : BF := bSeq (bSet (gName 1) (eComp [2] (aIt (eMS sSplit (eVar 0) (aCons (eC (.str [59, 32])) (aNil)))) (gName 2) (tYes) (eCall f__law_declaration_of (aCons (eVar 2) (aNil))))) (bSeq (bIf (tOr (tV (eOp oInD (eC .non) (eVar 1))) (tV (eOp oGt (eBlt bLen (aCons (eVar 1) (aNil))) (eC (.int 12))))) (bRet (eC .non)) (bNil)) (bRet (eComp [2] (aIt (eVar 1)) (gName 2) (tYes) (eIf (tV (eOp oIn (eOp oIx (eVar 2) (eC (.int 1))) (eCall f__law_values (aCons (eOp oIx (eVar 2) (eC (.int 0))) (aNil))))) (eVar 2) (eC .non)))))
def f__law_declarations_of : FD := fnD 1 3 b__law_declarations_of
def b__law_spoilt : BF := bSeq (bSet (gName 2) (eCall f__law_draw (aCons (eVar 0) (aCons (eC (.int 6)) (aNil))))) (bSeq (bSet (gName 3) (eCall f__law_draw (aCons (eVar 0) (aCons (eOp oAdd (eBlt bLen (aCons (eVar 1) (aNil))) (eC (.int 1))) (aNil))))) (bSeq (bSet (gName 4) (eC (.str lited6597))) (bSeq (bSet (gName 5) (eOp oIx (eVar 4) (eCall f__law_draw (aCons (eVar 0) (aCons (eBlt bLen (aCons (eVar 4) (aNil))) (aNil)))))) (bSeq (bSet (gName 6) (eLst (aCons (eC (.str [32])) (aCons (eC (.str [44, 32])) (aCons (eC (.str [32, 62, 32])) (aCons (eC (.str [59, 32])) (aCons (eC (.str [58, 32])) (aCons (eC (.str [32, 123, 32])) (aCons (eC (.str [32, 125])) (aCons (eC (.str [32, 33])) (aCons (eC (.str [58, 102, 105, 114, 115, 116])) (aCons (eC (.str [91, 97, 93])) (aCons (eC (.str [91, 97, 61, 48, 93])) (aCons (eC (.str [42])) (aCons (eC (.str lit43fe28)) (aCons (eC (.str [35, 97])) (aNil))))))))))))))))) (bSeq (bIf (tV (eOp oEq (eVar 2) (eC (.int 0)))) (bRet (eOp oAdd (eOp oAdd (eSl (eVar 1) (pNo) (pSo (eVar 3))) (eVar 5)) (eSl (eVar 1) (pSo (eVar 3)) (pNo)))) (bNil)) (bSeq (bIf (tV (eOp oEq (eVar 2) (eC (.int 1)))) (bRet (eOp oAdd (eSl (eVar 1) (pNo) (pSo (eVar 3))) (eSl (eVar 1) (pSo (eOp oAdd (eVar 3) (eC (.int 1)))) (pNo)))) (bNil)) (bSeq (bIf (tV (eOp oEq (eVar 2) (eC (.int 2)))) (bRet (eOp oAdd (eOp oAdd (eSl (eVar 1) (pNo) (pSo (eVar 3))) (eVar 5)) (eSl (eVar 1) (pSo (eOp oAdd (eVar 3) (eC (.int 1)))) (pNo)))) (bNil)) (bSeq (bIf (tV (eOp oEq (eVar 2) (eC (.int 3)))) (bRet (eOp oAdd (eOp oAdd (eSl (eVar 1) (pNo) (pSo (eVar 3))) (eSl (eVar 1) (pSo (eVar 3)) (pSo (eOp oAdd (eVar 3) (eC (.int 5)))))) (eSl (eVar 1) (pSo (eVar 3)) (pNo)))) (bNil)) (bRet (eOp oAdd (eOp oAdd (eSl (eVar 1) (pNo) (pSo (eVar 3))) (eOp oIx (eVar 6) (eCall f__law_draw (aCons (eVar 0) (aCons (eC (.int 14)) (aNil)))))) (eSl (eVar 1) (pSo (eOp oSub (eOp oAdd (eVar 3) (eVar 2)) (eC (.int 4)))) (pNo))))))))))))
def f__law_spoilt : FD := fnD 2 7 b__law_spoilt
def b_law : BF := bSeq (bSet (gName 1) (eCall f__law_bag (aCons (eVar 0) (aNil)))) (bSeq (bFor (aRng1 (eOp oAdd (eC (.int 8)) (eBlt bMin2 (aCons (eC (.int 10)) (aCons (eBlt bLen (aCons (eVar 0) (aNil))) (aNil)))))) (gName 2) (bSeq (bSet (gName 3) (eCall f__law_own_look (aCons (eVar 1) (aCons (eDict0) (aNil))))) (bSeq (bIf (tV (eOp oEq (eCall f__law_draw (aCons (eVar 1) (aCons (eC (.int 12)) (aNil)))) (eC (.int 11)))) (bSet (gName 3) (eMS sJoin (eC (.str [59, 32])) (aCons (eComp [4] (aRng1 (eOp oAdd (eC (.int 12)) (eCall f__law_draw (aCons (eVar 1) (aCons (eC (.int 2)) (aNil)))))) (gName 4) (tYes) (eCall f__law_declared (aCons (eCall f__law_declaration (aCons (eVar 1) (aNil))) (aNil)))) (aNil)))) (bNil)) (bSeq (bFor (aRng1 (eOp oIx (eLst (aCons (eC (.int 0)) (aCons (eC (.int 0)) (aCons (eC (.int 1)) (aCons (eC (.int 1)) (aCons (eC (.int 2)) (aCons (eC (.int 3)) (aNil)))))))) (eCall f__law_draw (aCons (eVar 1) (aCons (eC (.int 6)) (aNil)))))) (gName 4) (bSet (gName 3) (eCall f__law_spoilt (aCons (eVar 1) (aCons (eVar 3) (aNil)))))) (bSeq (bSet (gName 5) (eCall f__law_declarations_of (aCons (eVar 3) (aNil)))) (bSeq (bSet (gName 6) (eCall f_own_rules (aCons (eVar 3) (aNil)))) (bSeq (bSet (gName 7) (eCall f_own_rules (aCons (eVar 3) (aNil)))) (bSeq (bIf (tNot (tV (eCall f__law_alike (aCons (eVar 6) (aCons (eIf (tV (eOp oIs (eVar 5) (eC .non))) (eLst (aNil)) (eVar 5)) (aNil)))))) (bRet (eC (.bl false))) (bNil)) (bSeq (bDrop (eApp (eVar 6) (eTup (aCons (eC (.str [112, 97, 100])) (aCons (eC (.str [49])) (aCons (eC (.bl false)) (aNil))))))) (bSeq (bIf (tOr (tNot (tV (eCall f__law_alike (aCons (eVar 7) (aCons (eIf (tV (eOp oIs (eVar 5) (eC .non))) (eLst (aNil)) (eVar 5)) (aNil)))))) (tNot (tV (eCall f__law_alike (aCons (eCall f_own_rules (aCons (eVar 3) (aNil))) (aCons (eVar 7) (aNil))))))) (bRet (eC (.bl false))) (bNil)) (bIf (tV (eOp oNotIn (eC (.str [10])) (eVar 3))) (bSeq (bSet (gName 8) (eCall f_rules_of (aCons (eOp oAdd (eOp oAdd (eC (.str [112, 32, 123, 32])) (eVar 3)) (eC (.str [32, 125]))) (aNil)))) (bIf (tNot (tV (eCall f__law_alike (aCons (eVar 8) (aCons (eLst (aCons (eIf (tV (eOp oIs (eVar 5) (eC .non))) (eC .non) (eTup (aCons (eLst (aCons (eC (.str [112])) (aNil))) (aCons (eVar 5) (aNil))))) (aNil))) (aNil)))))) (bRet (eC (.bl false))) (bNil))) (bNil)))))))))))) (bRet (eC (.bl true))))
def f_law : FD := fnD 1 9 b_law
structure Top (w : World) (K : PySem.W.Frag) (mg : Str → Option Value) : Prop where
  d_number_of : ∃ f fd, Fun K "number_of" "number_of" (topS 2) f fd ∧ mg "number_of" = some (.ref f)
  d_has_value : ∃ f fd, Fun K "has_value" "has_value" (topS 8) f fd ∧ mg "has_value" = some (.ref f)
  d_is_part : ∃ f fd, Fun K "is_part" "is_part" (topS 9) f fd ∧ mg "is_part" = some (.ref f)
  d_is_between : ∃ f fd, Fun K "is_between" "is_between" (topS 10) f fd ∧ mg "is_between" = some (.ref f)
  d_run_at : ∃ f fd, Fun K "run_at" "run_at" (topS 14) f fd ∧ mg "run_at" = some (.ref f)
  d_word_at : ∃ f fd, Fun K "word_at" "word_at" (topS 15) f fd ∧ mg "word_at" = some (.ref f)
  d_is_word : ∃ f fd, Fun K "is_word" "is_word" (topS 16) f fd ∧ mg "is_word" = some (.ref f)
  d_compounds_of : ∃ f fd, Fun K "compounds_of" "compounds_of" (topS 21) f fd ∧ mg "compounds_of" = some (.ref f)
  d_compound_of : ∃ f fd, Fun K "compound_of" "compound_of" (topS 22) f fd ∧ mg "compound_of" = some (.ref f)
  d_test_at : ∃ f fd, Fun K "test_at" "test_at" (topS 23) f fd ∧ mg "test_at" = some (.ref f)
  d_worth_test_at : ∃ f fd, Fun K "worth_test_at" "worth_test_at" (topS 24) f fd ∧ mg "worth_test_at" = some (.ref f)
  d_rules_of : ∃ f fd, Fun K "rules_of" "rules_of" (topS 30) f fd ∧ mg "rules_of" = some (.ref f)
  d_own_rules : ∃ f fd, Fun K "own_rules" "own_rules" (topS 31) f fd ∧ mg "own_rules" = some (.ref f)
  d_own_declarations : ∃ f fd, Fun K "own_declarations" "own_declarations" (topS 32) f fd ∧ mg "own_declarations" = some (.ref f)
  d_rule_of : ∃ f fd, Fun K "rule_of" "rule_of" (topS 33) f fd ∧ mg "rule_of" = some (.ref f)
  d_selectors_of : ∃ f fd, Fun K "selectors_of" "selectors_of" (topS 34) f fd ∧ mg "selectors_of" = some (.ref f)
  d_declarations_of : ∃ f fd, Fun K "declarations_of" "declarations_of" (topS 35) f fd ∧ mg "declarations_of" = some (.ref f)
  d_declaration_of : ∃ f fd, Fun K "declaration_of" "declaration_of" (topS 36) f fd ∧ mg "declaration_of" = some (.ref f)
  d_is_value : ∃ f fd, Fun K "is_value" "is_value" (topS 37) f fd ∧ mg "is_value" = some (.ref f)
  d__law_bag : ∃ f fd, Fun K "_law_bag" "_law_bag" (topS 39) f fd ∧ mg "_law_bag" = some (.ref f)
  d__law_stirred : ∃ f fd, Fun K "_law_stirred" "_law_stirred" (topS 40) f fd ∧ mg "_law_stirred" = some (.ref f)
  d__law_draw : ∃ f fd, Fun K "_law_draw" "_law_draw" (topS 41) f fd ∧ mg "_law_draw" = some (.ref f)
  d__law_alike : ∃ f fd, Fun K "_law_alike" "_law_alike" (topS 42) f fd ∧ mg "_law_alike" = some (.ref f)
  d__law_bounds : ∃ f fd, Fun K "_law_bounds" "_law_bounds" (topS 43) f fd ∧ mg "_law_bounds" = some (.ref f)
  d__law_props : ∃ f fd, Fun K "_law_props" "_law_props" (topS 44) f fd ∧ mg "_law_props" = some (.ref f)
  d__law_choices : ∃ f fd, Fun K "_law_choices" "_law_choices" (topS 45) f fd ∧ mg "_law_choices" = some (.ref f)
  d__law_value : ∃ f fd, Fun K "_law_value" "_law_value" (topS 46) f fd ∧ mg "_law_value" = some (.ref f)
  d__law_no_value : ∃ f fd, Fun K "_law_no_value" "_law_no_value" (topS 47) f fd ∧ mg "_law_no_value" = some (.ref f)
  d__law_declaration : ∃ f fd, Fun K "_law_declaration" "_law_declaration" (topS 48) f fd ∧ mg "_law_declaration" = some (.ref f)
  d__law_declared : ∃ f fd, Fun K "_law_declared" "_law_declared" (topS 49) f fd ∧ mg "_law_declared" = some (.ref f)
  d__law_own_look : ∃ f fd, Fun K "_law_own_look" "_law_own_look" (topS 50) f fd ∧ mg "_law_own_look" = some (.ref f)
  d__law_is_word : ∃ f fd, Fun K "_law_is_word" "_law_is_word" (topS 51) f fd ∧ mg "_law_is_word" = some (.ref f)
  d__law_values : ∃ f fd, Fun K "_law_values" "_law_values" (topS 52) f fd ∧ mg "_law_values" = some (.ref f)
  d__law_declaration_of : ∃ f fd, Fun K "_law_declaration_of" "_law_declaration_of" (topS 53) f fd ∧ mg "_law_declaration_of" = some (.ref f)
  d__law_declarations_of : ∃ f fd, Fun K "_law_declarations_of" "_law_declarations_of" (topS 54) f fd ∧ mg "_law_declarations_of" = some (.ref f)
  d__law_spoilt : ∃ f fd, Fun K "_law_spoilt" "_law_spoilt" (topS 55) f fd ∧ mg "_law_spoilt" = some (.ref f)
  d_law : ∃ f fd, Fun K "law" "law" (topS 56) f fd ∧ mg "law" = some (.ref f)
  z_abs : mg "abs" = none
  z_all : mg "all" = none
  z_bool : mg "bool" = none
  z_enumerate : mg "enumerate" = none
  z_int : mg "int" = none
  z_isinstance : mg "isinstance" = none
  z_len : mg "len" = none
  z_list : mg "list" = none
  z_max : mg "max" = none
  z_min : mg "min" = none
  z_range : mg "range" = none
  z_str : mg "str" = none
  z_tuple : mg "tuple" = none
  g_FIGURES : GlobD K mg "FIGURES" k_FIGURES
  d_WORDS : GDict K w mg "WORDS" kd_WORDS
  d_BOUNDS : GDict K w mg "BOUNDS" kd_BOUNDS
  g_MOST_PARTS : GlobD K mg "MOST_PARTS" k_MOST_PARTS
  g_MOST_FIGURES : GlobD K mg "MOST_FIGURES" k_MOST_FIGURES
  g_WORD_SIGNS : GlobD K mg "WORD_SIGNS" k_WORD_SIGNS
  g_MOST_WORD_SIGNS : GlobD K mg "MOST_WORD_SIGNS" k_MOST_WORD_SIGNS
  g_MOST_COMPOUNDS : GlobD K mg "MOST_COMPOUNDS" k_MOST_COMPOUNDS
  g_MOST_VALUE_SIGNS : GlobD K mg "MOST_VALUE_SIGNS" k_MOST_VALUE_SIGNS
  g_FIRST : GlobD K mg "FIRST" k_FIRST
  g_MOST_SELECTORS : GlobD K mg "MOST_SELECTORS" k_MOST_SELECTORS
  g_MOST_DECLARATIONS : GlobD K mg "MOST_DECLARATIONS" k_MOST_DECLARATIONS
  g_STRONG : GlobD K mg "STRONG" k_STRONG
  g_BARRED : GlobD K mg "BARRED" k_BARRED
section
variable {P : Program} {w : World} {K : PySem.W.Frag} {mg : Str → Option Value} {base : Heap}
abbrev s_number_of : Stmt := topS 2
theorem sc_number_of : FnScope ["text", "most_figures", "figures", "number"] ["text", "most_figures"] (defScope s_number_of) := ⟨rfl, rfl, rfl, by decide +kernel, rfl, by decide +kernel, by decide +kernel⟩
theorem y_number_of (T : Top w K mg)    : Body P w K mg base 0 ["text", "most_figures", "figures", "number"] "number_of" s_number_of b_number_of := fun f cdv A outer s H E hr =>
  have sc := sc_number_of
  jb_cons (js_set (jg_name 2 sc.nd) (j_mS PySem.F.plainAttrs_str PySem.F.slot_str_removeprefix PySem.F.type_str_removeprefix ms_removeprefix (j_var 0) (ja_cons (j_str [45]) (ja_nil)))) (jb_cons (js_if (jt_w (jw_or (jt_cmp (od_eq hr.units) (j_var 2) (j_str [])) (jw_or (jt_cmp od_gt (j_bltB cb_len T.z_len PySem.boot_len (ja_cons (j_var 2) (ja_nil))) (j_var 1)) (jw_or1 (jt_cmp (od_ne hr.units) (j_mS PySem.F.plainAttrs_str PySem.F.slot_str_strip PySem.F.type_str_strip ms_strip (j_var 2) (ja_cons (j_glob T.g_FIGURES) (ja_nil))) (j_str [])))))) (jb_one (js_ret (j_non))) (jb_nil)) (jb_cons (js_set (jg_name 3 sc.nd) (j_bltT cb_intS T.z_int (by decide +kernel) (ja_cons (j_var 0) (ja_nil)))) (jb_one (js_ret (j_if (jt_cmp (od_eq hr.units) (j_bltT cb_strI T.z_str (by decide +kernel) (ja_cons (j_var 3) (ja_nil))) (j_var 0)) (j_var 3) (j_non))))))
theorem o_number_of (T : Top w K mg)    : Fn P w K mg base 1 "number_of" ["text", "most_figures"] f_number_of := Fn.of T.d_number_of sc_number_of (fun _ _ _ _ _ _ us hl => match us, hl with | [_, _], _ => rfl) (y_number_of T   )
abbrev s_is_between : Stmt := topS 10
theorem sc_is_between : FnScope ["value", "bounds", "number", "least", "most"] ["value", "bounds"] (defScope s_is_between) := ⟨rfl, rfl, rfl, by decide +kernel, rfl, by decide +kernel, by decide +kernel⟩
theorem y_is_between (T : Top w K mg) (h_number_of : Fn P w K mg base 1 "number_of" ["text", "most_figures"] f_number_of)   : Body P w K mg base 1 ["value", "bounds", "number", "least", "most"] "is_between" s_is_between b_is_between := fun f cdv A outer s H E hr =>
  have sc := sc_is_between
  jb_cons (js_set (jg_tup rfl (jgs_cons (jg_name 3 sc.nd) (jgs_cons (jg_name 4 sc.nd) (jgs_nil)))) (j_var 1)) (jb_cons (js_set (jg_name 2 sc.nd) (j_call h_number_of hr (ja_cons (j_var 0) (ja_cons (j_glob T.g_MOST_FIGURES) (ja_nil))))) (jb_one (js_ret (j_and (j_cmp od_isnot (j_var 2) (j_non)) (j_one (j_chain od_le od_le (j_var 3) (j_var 2) (j_var 4)))))))
theorem o_is_between (T : Top w K mg) (h_number_of : Fn P w K mg base 1 "number_of" ["text", "most_figures"] f_number_of)   : Fn P w K mg base 2 "is_between" ["value", "bounds"] f_is_between := Fn.of T.d_is_between sc_is_between (fun _ _ _ _ _ _ us hl => match us, hl with | [_, _], _ => rfl) (y_is_between T h_number_of  )
abbrev s_is_part : Stmt := topS 9
theorem sc_is_part : FnScope ["value", "many", "_", "parts"] ["value"] (defScope s_is_part) := ⟨rfl, rfl, rfl, by decide +kernel, rfl, by decide +kernel, by decide +kernel⟩
theorem y_is_part (T : Top w K mg) (h_is_between : Fn P w K mg base 2 "is_between" ["value", "bounds"] f_is_between)   : Body P w K mg base 2 ["value", "many", "_", "parts"] "is_part" s_is_part b_is_part := fun f cdv A outer s H E hr =>
  have sc := sc_is_part
  jb_cons (js_set (jg_tup rfl (jgs_cons (jg_name 1 sc.nd) (jgs_cons (jg_name 2 sc.nd) (jgs_cons (jg_name 3 sc.nd) (jgs_nil))))) (j_mS PySem.F.plainAttrs_str PySem.F.slot_str_partition PySem.F.type_str_partition ms_partition (j_var 0) (ja_cons (j_str [47]) (ja_nil)))) (jb_one (js_ret (j_and (j_call h_is_between hr (ja_cons (j_var 3) (ja_cons (j_tup (ja_cons (j_int) (ja_cons (j_glob T.g_MOST_PARTS) (ja_nil))) (few_of (few_cons (few_cons (few_nil))))) (ja_nil)))) (j_one (j_call h_is_between hr (ja_cons (j_var 1) (ja_cons (j_tup (ja_cons (j_int) (ja_cons (j_bltT cb_intS T.z_int (by decide +kernel) (ja_cons (j_var 3) (ja_nil))) (ja_nil))) (few_of (few_cons (few_cons (few_nil))))) (ja_nil))))))))
theorem o_is_part (T : Top w K mg) (h_is_between : Fn P w K mg base 2 "is_between" ["value", "bounds"] f_is_between)   : Fn P w K mg base 3 "is_part" ["value"] f_is_part := Fn.of T.d_is_part sc_is_part (fun _ _ _ _ _ _ us hl => match us, hl with | [_], _ => rfl) (y_is_part T h_is_between  )
abbrev s_has_value : Stmt := topS 8
theorem sc_has_value : FnScope ["name", "value"] ["name", "value"] (defScope s_has_value) := ⟨rfl, rfl, rfl, by decide +kernel, rfl, by decide +kernel, by decide +kernel⟩
theorem y_has_value (T : Top w K mg) (h_is_between : Fn P w K mg base 2 "is_between" ["value", "bounds"] f_is_between) (h_is_part : Fn P w K mg base 3 "is_part" ["value"] f_is_part)   : Body P w K mg base 3 ["name", "value"] "has_value" s_has_value b_has_value := fun f cdv A outer s H E hr =>
  have sc := sc_has_value
  jb_cons (js_if (jt_w (jw_and (jt_notInK T.d_WORDS (j_var 0)) (jw_and1 (jt_notInK T.d_BOUNDS (j_var 0))))) (jb_one (js_ret (j_bl))) (jb_nil)) (jb_cons (js_if (jt_w (jw_or (jt_cmp (od_eq hr.units) (j_var 1) (j_str lit3e26d6)) (jw_or1 (jt_cmp od_in (j_var 1) (j_getK T.d_WORDS (j_var 0) (j_tup (ja_nil) (few_of few_nil))))))) (jb_one (js_ret (j_bl))) (jb_nil)) (jb_cons (js_if (jt_w (jw_and (jt_cmp (od_eq hr.units) (j_var 0) (j_str [119, 105, 100, 116, 104])) (jw_and1 (jt_cmp od_in (j_str [47]) (j_var 1))))) (jb_one (js_ret (j_call h_is_part hr (ja_cons (j_var 1) (ja_nil))))) (jb_nil)) (jb_one (js_ret (j_and (j_inK T.d_BOUNDS (j_var 0)) (j_one (j_call h_is_between (hr.mono (by decide)) (ja_cons (j_var 1) (ja_cons (j_ixK T.d_BOUNDS (j_var 0)) (ja_nil))))))))))
theorem o_has_value (T : Top w K mg) (h_is_between : Fn P w K mg base 2 "is_between" ["value", "bounds"] f_is_between) (h_is_part : Fn P w K mg base 3 "is_part" ["value"] f_is_part)   : Fn P w K mg base 4 "has_value" ["name", "value"] f_has_value := Fn.of T.d_has_value sc_has_value (fun _ _ _ _ _ _ us hl => match us, hl with | [_, _], _ => rfl) (y_has_value T h_is_between h_is_part  )
abbrev s_run_at : Stmt := topS 14
theorem sc_run_at : FnScope ["text", "at", "signs", "rest"] ["text", "at", "signs"] (defScope s_run_at) := ⟨rfl, rfl, rfl, by decide +kernel, rfl, by decide +kernel, by decide +kernel⟩
theorem y_run_at (T : Top w K mg)    : Body P w K mg base 0 ["text", "at", "signs", "rest"] "run_at" s_run_at b_run_at := fun f cdv A outer s H E hr =>
  have sc := sc_run_at
  jb_cons (js_set (jg_name 3 sc.nd) (j_sl (j_var 0) (jp_so (j_var 1)) (jp_no))) (jb_one (js_ret (j_sl (j_var 3) (jp_no) (jp_so (j_op od_sub (j_bltB cb_len T.z_len PySem.boot_len (ja_cons (j_var 3) (ja_nil))) (j_bltB cb_len T.z_len PySem.boot_len (ja_cons (j_mS PySem.F.plainAttrs_str PySem.F.slot_str_lstrip PySem.F.type_str_lstrip ms_lstrip (j_var 3) (ja_cons (j_var 2) (ja_nil))) (ja_nil))))))))
theorem o_run_at (T : Top w K mg)    : Fn P w K mg base 1 "run_at" ["text", "at", "signs"] f_run_at := Fn.of T.d_run_at sc_run_at (fun _ _ _ _ _ _ us hl => match us, hl with | [_, _, _], _ => rfl) (y_run_at T   )
abbrev s_word_at : Stmt := topS 15
theorem sc_word_at : FnScope ["text", "at", "word"] ["text", "at"] (defScope s_word_at) := ⟨rfl, rfl, rfl, by decide +kernel, rfl, by decide +kernel, by decide +kernel⟩
theorem y_word_at (T : Top w K mg) (h_run_at : Fn P w K mg base 1 "run_at" ["text", "at", "signs"] f_run_at)   : Body P w K mg base 1 ["text", "at", "word"] "word_at" s_word_at b_word_at := fun f cdv A outer s H E hr =>
  have sc := sc_word_at
  jb_cons (js_set (jg_name 2 sc.nd) (j_call h_run_at hr (ja_cons (j_sl (j_var 0) (jp_so (j_var 1)) (jp_so (j_op od_add (j_op od_add (j_var 1) (j_glob T.g_MOST_WORD_SIGNS)) (j_int)))) (ja_cons (j_int) (ja_cons (j_glob T.g_WORD_SIGNS) (ja_nil)))))) (jb_cons (js_if (jt_w (jw_or (jt_cmp od_gt (j_bltB cb_len T.z_len PySem.boot_len (ja_cons (j_var 2) (ja_nil))) (j_glob T.g_MOST_WORD_SIGNS)) (jw_or1 (jt_val (j_mS PySem.F.plainAttrs_str PySem.F.slot_str_startswith PySem.F.type_str_startswith ms_startswith (j_var 2) (ja_cons (j_str [45]) (ja_nil))))))) (jb_one (js_ret (j_str []))) (jb_nil)) (jb_one (js_ret (j_var 2))))
theorem o_word_at (T : Top w K mg) (h_run_at : Fn P w K mg base 1 "run_at" ["text", "at", "signs"] f_run_at)   : Fn P w K mg base 2 "word_at" ["text", "at"] f_word_at := Fn.of T.d_word_at sc_word_at (fun _ _ _ _ _ _ us hl => match us, hl with | [_, _], _ => rfl) (y_word_at T h_run_at  )
abbrev s_is_word : Stmt := topS 16
theorem sc_is_word : FnScope ["text"] ["text"] (defScope s_is_word) := ⟨rfl, rfl, rfl, by decide +kernel, rfl, by decide +kernel, by decide +kernel⟩
theorem y_is_word (T : Top w K mg) (h_word_at : Fn P w K mg base 2 "word_at" ["text", "at"] f_word_at)   : Body P w K mg base 2 ["text"] "is_word" s_is_word b_is_word := fun f cdv A outer s H E hr =>
  have sc := sc_is_word
  jb_one (js_ret (j_and (j_cmp (od_ne hr.units) (j_var 0) (j_str [])) (j_one (j_cmp (od_eq hr.units) (j_call h_word_at hr (ja_cons (j_var 0) (ja_cons (j_int) (ja_nil)))) (j_var 0)))))
theorem o_is_word (T : Top w K mg) (h_word_at : Fn P w K mg base 2 "word_at" ["text", "at"] f_word_at)   : Fn P w K mg base 3 "is_word" ["text"] f_is_word := Fn.of T.d_is_word sc_is_word (fun _ _ _ _ _ _ us hl => match us, hl with | [_], _ => rfl) (y_is_word T h_word_at  )
abbrev s_worth_test_at : Stmt := topS 24
theorem sc_worth_test_at : FnScope ["signs", "name", "at", "value"] ["signs", "name", "at"] (defScope s_worth_test_at) := ⟨rfl, rfl, rfl, by decide +kernel, rfl, by decide +kernel, by decide +kernel⟩
theorem y_worth_test_at (T : Top w K mg) (h_run_at : Fn P w K mg base 1 "run_at" ["text", "at", "signs"] f_run_at)   : Body P w K mg base 1 ["signs", "name", "at", "value"] "worth_test_at" s_worth_test_at b_worth_test_at := fun f cdv A outer s H E hr =>
  have sc := sc_worth_test_at
  jb_cons (js_if (jt_val (j_mS PySem.F.plainAttrs_str PySem.F.slot_str_startswith PySem.F.type_str_startswith ms_starts3 (j_var 0) (ja_cons (j_str [93]) (ja_cons (j_var 2) (ja_nil))))) (jb_one (js_ret (j_tup (ja_cons (j_tup (ja_cons (j_str [91]) (ja_cons (j_var 1) (ja_cons (j_str []) (ja_nil)))) (few_of (few_cons (few_cons (few_cons (few_nil)))))) (ja_cons (j_op od_add (j_var 2) (j_int)) (ja_nil))) (few_of (few_cons (few_cons (few_nil))))))) (jb_nil)) (jb_cons (js_set (jg_name 3 sc.nd) (j_call h_run_at hr (ja_cons (j_var 0) (ja_cons (j_op od_add (j_var 2) (j_int)) (ja_cons (j_op od_add (j_glob T.g_WORD_SIGNS) (j_glob T.g_FIGURES)) (ja_nil)))))) (jb_cons (js_if (jt_w (jw_or (jt_cmp (od_eq hr.units) (j_var 3) (j_str [])) (jw_or (jt_cmp od_gt (j_bltB cb_len T.z_len PySem.boot_len (ja_cons (j_var 3) (ja_nil))) (j_glob T.g_MOST_VALUE_SIGNS)) (jw_or1 (jt_not (jt_val (j_mS PySem.F.plainAttrs_str PySem.F.slot_str_startswith PySem.F.type_str_startswith ms_starts3 (j_var 0) (ja_cons (j_fmt (.lit (j_str [61]) (.lit (j_fmtV (j_var 3)) (.lit (j_str [93]) (.nil))))) (ja_cons (j_var 2) (ja_nil)))))))))) (jb_one (js_ret (j_non))) (jb_nil)) (jb_one (js_ret (j_tup (ja_cons (j_tup (ja_cons (j_str [61]) (ja_cons (j_var 1) (ja_cons (j_var 3) (ja_nil)))) (few_of (few_cons (few_cons (few_cons (few_nil)))))) (ja_cons (j_op od_add (j_op od_add (j_var 2) (j_bltB cb_len T.z_len PySem.boot_len (ja_cons (j_var 3) (ja_nil)))) (j_int)) (ja_nil))) (few_of (few_cons (few_cons (few_nil)))))))))
theorem o_worth_test_at (T : Top w K mg) (h_run_at : Fn P w K mg base 1 "run_at" ["text", "at", "signs"] f_run_at)   : Fn P w K mg base 2 "worth_test_at" ["signs", "name", "at"] f_worth_test_at := Fn.of T.d_worth_test_at sc_worth_test_at (fun _ _ _ _ _ _ us hl => match us, hl with | [_, _, _], _ => rfl) (y_worth_test_at T h_run_at  )
abbrev s_test_at : Stmt := topS 23
theorem sc_test_at : FnScope ["signs", "at", "word", "behind"] ["signs", "at"] (defScope s_test_at) := ⟨rfl, rfl, rfl, by decide +kernel, rfl, by decide +kernel, by decide +kernel⟩
theorem y_test_at (T : Top w K mg) (h_word_at : Fn P w K mg base 2 "word_at" ["text", "at"] f_word_at) (h_worth_test_at : Fn P w K mg base 2 "worth_test_at" ["signs", "name", "at"] f_worth_test_at)   : Body P w K mg base 2 ["signs", "at", "word", "behind"] "test_at" s_test_at b_test_at := fun f cdv A outer s H E hr =>
  have sc := sc_test_at
  jb_cons (js_if (jt_val (j_mS PySem.F.plainAttrs_str PySem.F.slot_str_startswith PySem.F.type_str_startswith ms_starts3 (j_var 0) (ja_cons (j_glob T.g_FIRST) (ja_cons (j_var 1) (ja_nil))))) (jb_one (js_ret (j_tup (ja_cons (j_tup (ja_cons (j_glob T.g_FIRST) (ja_cons (j_str []) (ja_cons (j_str []) (ja_nil)))) (few_of (few_cons (few_cons (few_cons (few_nil)))))) (ja_cons (j_op od_add (j_var 1) (j_bltB cb_len T.z_len PySem.boot_len (ja_cons (j_glob T.g_FIRST) (ja_nil)))) (ja_nil))) (few_of (few_cons (few_cons (few_nil))))))) (jb_nil)) (jb_cons (js_set (jg_name 2 sc.nd) (j_call h_word_at hr (ja_cons (j_var 0) (ja_cons (j_op od_add (j_var 1) (j_int)) (ja_nil))))) (jb_cons (js_set (jg_name 3 sc.nd) (j_op od_add (j_op od_add (j_var 1) (j_int)) (j_bltB cb_len T.z_len PySem.boot_len (ja_cons (j_var 2) (ja_nil))))) (jb_cons (js_if (jt_cmp (od_eq hr.units) (j_var 2) (j_str [])) (jb_one (js_ret (j_non))) (jb_nil)) (jb_cons (js_if (jt_cmp (od_eq hr.units) (j_ix (j_var 0) (j_var 1)) (j_str [35])) (jb_one (js_ret (j_tup (ja_cons (j_tup (ja_cons (j_str [35]) (ja_cons (j_str [105, 100]) (ja_cons (j_var 2) (ja_nil)))) (few_of (few_cons (few_cons (few_cons (few_nil)))))) (ja_cons (j_var 3) (ja_nil))) (few_of (few_cons (few_cons (few_nil))))))) (jb_nil)) (jb_cons (js_if (jt_cmp (od_eq hr.units) (j_ix (j_var 0) (j_var 1)) (j_str [46])) (jb_one (js_ret (j_tup (ja_cons (j_tup (ja_cons (j_str [46]) (ja_cons (j_str [99, 108, 97, 115, 115]) (ja_cons (j_var 2) (ja_nil)))) (few_of (few_cons (few_cons (few_cons (few_nil)))))) (ja_cons (j_var 3) (ja_nil))) (few_of (few_cons (few_cons (few_nil))))))) (jb_nil)) (jb_one (js_ret (j_if (jt_cmp (od_eq hr.units) (j_ix (j_var 0) (j_var 1)) (j_str [91])) (j_call h_worth_test_at hr (ja_cons (j_var 0) (ja_cons (j_var 2) (ja_cons (j_var 3) (ja_nil))))) (j_non)))))))))
theorem o_test_at (T : Top w K mg) (h_word_at : Fn P w K mg base 2 "word_at" ["text", "at"] f_word_at) (h_worth_test_at : Fn P w K mg base 2 "worth_test_at" ["signs", "name", "at"] f_worth_test_at)   : Fn P w K mg base 3 "test_at" ["signs", "at"] f_test_at := Fn.of T.d_test_at sc_test_at (fun _ _ _ _ _ _ us hl => match us, hl with | [_, _], _ => rfl) (y_test_at T h_word_at h_worth_test_at  )
abbrev s_compound_of : Stmt := topS 22
theorem sc_compound_of : FnScope ["signs", "name", "tests", "at", "found", "test"] ["signs"] (defScope s_compound_of) := ⟨rfl, rfl, rfl, by decide +kernel, rfl, by decide +kernel, by decide +kernel⟩
theorem y_compound_of (T : Top w K mg) (h_test_at : Fn P w K mg base 3 "test_at" ["signs", "at"] f_test_at) (h_word_at : Fn P w K mg base 2 "word_at" ["text", "at"] f_word_at)   : Body P w K mg base 3 ["signs", "name", "tests", "at", "found", "test"] "compound_of" s_compound_of b_compound_of := fun f cdv A outer s H E hr =>
  have sc := sc_compound_of
  jb_cons (js_set (jg_name 1 sc.nd) (j_call h_word_at (hr.mono (by decide)) (ja_cons (j_var 0) (ja_cons (j_int) (ja_nil))))) (jb_cons (js_set (jg_name 2 sc.nd) (j_cel (ja_nil) (few_of few_nil))) (jb_cons (js_set (jg_name 3 sc.nd) (j_if (jt_val (j_mS PySem.F.plainAttrs_str PySem.F.slot_str_startswith PySem.F.type_str_startswith ms_startswith (j_var 0) (ja_cons (j_str [42]) (ja_nil)))) (j_int) (j_bltB cb_len T.z_len PySem.boot_len (ja_cons (j_var 1) (ja_nil))))) (jb_cons (js_while fuel PassesOwn.never (jt_cmp od_lt (j_var 3) (j_bltB cb_len T.z_len PySem.boot_len (ja_cons (j_var 0) (ja_nil)))) (jb_cons (js_set (jg_name 4 sc.nd) (j_call h_test_at hr (ja_cons (j_var 0) (ja_cons (j_var 3) (ja_nil))))) (jb_cons (js_if (jt_cmp od_is (j_var 4) (j_non)) (jb_one (js_ret (j_non))) (jb_nil)) (jb_cons (js_set (jg_tup rfl (jgs_cons (jg_name 5 sc.nd) (jgs_cons (jg_name 3 sc.nd) (jgs_nil)))) (j_var 4)) (jb_one (js_expr (j_app (j_var 2) (j_var 5)))))))) (jb_one (js_ret (j_if (jt_cmp (od_eq hr.units) (j_var 0) (j_str [])) (j_non) (j_tup (ja_cons (j_var 1) (ja_cons (j_frz (j_var 2)) (ja_nil))) (few_of (few_cons (few_cons (few_nil)))))))))))
theorem o_compound_of (T : Top w K mg) (h_test_at : Fn P w K mg base 3 "test_at" ["signs", "at"] f_test_at) (h_word_at : Fn P w K mg base 2 "word_at" ["text", "at"] f_word_at)   : Fn P w K mg base 4 "compound_of" ["signs"] f_compound_of := Fn.of T.d_compound_of sc_compound_of (fun _ _ _ _ _ _ us hl => match us, hl with | [_], _ => rfl) (y_compound_of T h_test_at h_word_at  )
abbrev s_compounds_of : Stmt := topS 21
theorem sc_compounds_of : FnScope ["selector", "known", "compounds", "part", "at", "signs"] ["selector", "known"] (defScope s_compounds_of) := ⟨rfl, rfl, rfl, by decide +kernel, rfl, by decide +kernel, by decide +kernel⟩
theorem y_compounds_of (T : Top w K mg) (h_compound_of : Fn P w K mg base 4 "compound_of" ["signs"] f_compound_of)   : Body P w K mg base 4 ["selector", "known", "compounds", "part", "at", "signs"] "compounds_of" s_compounds_of b_compounds_of := fun f cdv A outer s H E hr =>
  have sc := sc_compounds_of
  jb_cons (js_set (jg_name 2 sc.nd) (j_cel (ja_nil) (few_of few_nil))) (jb_cons (js_for PassesOwn.never rfl (ji_e (j_mS PySem.F.plainAttrs_str PySem.F.slot_str_split PySem.F.type_str_split ms_split (j_var 0) (ja_cons (j_str [32, 62, 32]) (ja_nil)))) (jg_name 3 sc.nd) (jb_one (js_for PassesOwn.never rfl (ji_enum (j_mS PySem.F.plainAttrs_str PySem.F.slot_str_split PySem.F.type_str_split ms_split (j_var 3) (ja_cons (j_str [32]) (ja_nil))) T.z_enumerate) (jg_tup rfl (jgs_cons (jg_name 4 sc.nd) (jgs_cons (jg_name 5 sc.nd) (jgs_nil)))) (jb_cons (js_if (jt_dnotin (hu1 hr.units) (j_var 5) (j_var 1)) (jb_one (js_set (jg_dix (hu1 hr.units) (j_var 1) (j_var 5)) (j_call h_compound_of hr (ja_cons (j_var 5) (ja_nil))))) (jb_nil)) (jb_cons (js_if (jt_w (jw_or (jt_cmp od_is (j_dIx (hu1 hr.units) (j_var 1) (j_var 5)) (j_non)) (jw_or1 (jt_cmp (od_eq hr.units) (j_bltB cb_len T.z_len PySem.boot_len (ja_cons (j_var 2) (ja_nil))) (j_glob T.g_MOST_COMPOUNDS))))) (jb_one (js_ret (j_non))) (jb_nil)) (jb_one (js_expr (j_app (j_var 2) (j_tup (ja_few (ja_cons (j_cmp (od_eq hr.units) (j_var 4) (j_int)) (ja_star (j_dIx (hu1 hr.units) (j_var 1) (j_var 5)) (ja_nil)))) few_few))))))))) (jb_one (js_ret (j_frz (j_var 2)))))
theorem o_compounds_of (T : Top w K mg) (h_compound_of : Fn P w K mg base 4 "compound_of" ["signs"] f_compound_of)   : Fn P w K mg base 5 "compounds_of" ["selector", "known"] f_compounds_of := Fn.of T.d_compounds_of sc_compounds_of (fun _ _ _ _ _ _ us hl => match us, hl with | [_, _], _ => rfl) (y_compounds_of T h_compound_of  )
abbrev s_is_value : Stmt := topS 37
theorem sc_is_value : FnScope ["text", "sign"] ["text"] (defScope s_is_value) := ⟨rfl, rfl, rfl, by decide +kernel, rfl, by decide +kernel, by decide +kernel⟩
theorem y_is_value (T : Top w K mg)    : Body P w K mg base 0 ["text", "sign"] "is_value" s_is_value b_is_value := fun f cdv A outer s H E hr =>
  have sc := sc_is_value
  jb_cons (js_if (jt_w (jw_or (jt_cmp (od_eq hr.units) (j_var 0) (j_str [])) (jw_or1 (jt_cmp (od_ne hr.units) (j_mS PySem.F.plainAttrs_str PySem.F.slot_str_strip PySem.F.type_str_strip ms_strip (j_var 0) (ja_cons (j_str [32]) (ja_nil))) (j_var 0))))) (jb_one (js_ret (j_bl))) (jb_nil)) (jb_cons (js_for PassesOwn.never rfl (ji_e (j_glob T.g_BARRED)) (jg_name 1 sc.nd) (jb_one (js_if (jt_cmp od_in (j_var 1) (j_var 0)) (jb_one (js_ret (j_bl))) (jb_nil)))) (jb_one (js_ret (j_bl))))
theorem o_is_value (T : Top w K mg)    : Fn P w K mg base 1 "is_value" ["text"] f_is_value := Fn.of T.d_is_value sc_is_value (fun _ _ _ _ _ _ us hl => match us, hl with | [_], _ => rfl) (y_is_value T   )
abbrev s_declaration_of : Stmt := topS 36
theorem sc_declaration_of : FnScope ["signs", "strong", "value", "name", "_"] ["signs"] (defScope s_declaration_of) := ⟨rfl, rfl, rfl, by decide +kernel, rfl, by decide +kernel, by decide +kernel⟩
theorem y_declaration_of (T : Top w K mg) (h_has_value : Fn P w K mg base 4 "has_value" ["name", "value"] f_has_value) (h_is_value : Fn P w K mg base 1 "is_value" ["text"] f_is_value) (h_is_word : Fn P w K mg base 3 "is_word" ["text"] f_is_word)   : Body P w K mg base 4 ["signs", "strong", "value", "name", "_"] "declaration_of" s_declaration_of b_declaration_of := fun f cdv A outer s H E hr =>
  have sc := sc_declaration_of
  jb_cons (js_set (jg_tup rfl (jgs_cons (jg_name 3 sc.nd) (jgs_cons (jg_name 4 sc.nd) (jgs_cons (jg_name 2 sc.nd) (jgs_nil))))) (j_mS PySem.F.plainAttrs_str PySem.F.slot_str_partition PySem.F.type_str_partition ms_partition (j_var 0) (ja_cons (j_str [58, 32]) (ja_nil)))) (jb_cons (js_set (jg_name 1 sc.nd) (j_mS PySem.F.plainAttrs_str PySem.F.slot_str_endswith PySem.F.type_str_endswith ms_endswith (j_var 2) (ja_cons (j_glob T.g_STRONG) (ja_nil)))) (jb_cons (js_set (jg_name 2 sc.nd) (j_mS PySem.F.plainAttrs_str PySem.F.slot_str_removesuffix PySem.F.type_str_removesuffix ms_removesuffix (j_var 2) (ja_cons (j_glob T.g_STRONG) (ja_nil)))) (jb_cons (js_if (jt_w (jw_or (jt_not (jt_val (j_call h_is_word (hr.mono (by decide)) (ja_cons (j_var 3) (ja_nil))))) (jw_or1 (jt_not (jt_val (j_call h_is_value (hr.mono (by decide)) (ja_cons (j_var 2) (ja_nil)))))))) (jb_one (js_ret (j_tup (ja_cons (j_bl) (ja_cons (j_non) (ja_nil))) (few_of (few_cons (few_cons (few_nil))))))) (jb_nil)) (jb_one (js_ret (j_tup (ja_cons (j_bl) (ja_cons (j_if (jt_val (j_call h_has_value hr (ja_cons (j_var 3) (ja_cons (j_var 2) (ja_nil))))) (j_tup (ja_cons (j_var 3) (ja_cons (j_var 2) (ja_cons (j_var 1) (ja_nil)))) (few_of (few_cons (few_cons (few_cons (few_nil)))))) (j_non)) (ja_nil))) (few_of (few_cons (few_cons (few_nil))))))))))
theorem o_declaration_of (T : Top w K mg) (h_has_value : Fn P w K mg base 4 "has_value" ["name", "value"] f_has_value) (h_is_value : Fn P w K mg base 1 "is_value" ["text"] f_is_value) (h_is_word : Fn P w K mg base 3 "is_word" ["text"] f_is_word)   : Fn P w K mg base 5 "declaration_of" ["signs"] f_declaration_of := Fn.of T.d_declaration_of sc_declaration_of (fun _ _ _ _ _ _ us hl => match us, hl with | [_], _ => rfl) (y_declaration_of T h_has_value h_is_value h_is_word  )
abbrev s_declarations_of : Stmt := topS 35
theorem sc_declarations_of : FnScope ["text", "known", "declarations", "told", "signs", "is_written", "declaration"] ["text", "known"] (defScope s_declarations_of) := ⟨rfl, rfl, rfl, by decide +kernel, rfl, by decide +kernel, by decide +kernel⟩
theorem y_declarations_of (T : Top w K mg) (h_declaration_of : Fn P w K mg base 5 "declaration_of" ["signs"] f_declaration_of)   : Body P w K mg base 5 ["text", "known", "declarations", "told", "signs", "is_written", "declaration"] "declarations_of" s_declarations_of b_declarations_of := fun f cdv A outer s H E hr =>
  have sc := sc_declarations_of
  jb_cons (js_set (jg_name 2 sc.nd) (j_mS PySem.F.plainAttrs_str PySem.F.slot_str_split PySem.F.type_str_split ms_split (j_var 0) (ja_cons (j_str [59, 32]) (ja_nil)))) (jb_cons (js_if (jt_cmp od_gt (j_bltB cb_len T.z_len PySem.boot_len (ja_cons (j_var 2) (ja_nil))) (j_glob T.g_MOST_DECLARATIONS)) (jb_one (js_ret (j_non))) (jb_nil)) (jb_cons (js_set (jg_name 3 sc.nd) (j_cel (ja_nil) (few_of few_nil))) (jb_cons (js_for PassesOwn.never rfl (ji_e (j_var 2)) (jg_name 4 sc.nd) (jb_cons (js_if (jt_dnotin (hu1 hr.units) (j_var 4) (j_var 1)) (jb_one (js_set (jg_dix (hu1 hr.units) (j_var 1) (j_var 4)) (j_call h_declaration_of hr (ja_cons (j_var 4) (ja_nil))))) (jb_nil)) (jb_cons (js_set (jg_tup rfl (jgs_cons (jg_name 5 sc.nd) (jgs_cons (jg_name 6 sc.nd) (jgs_nil)))) (j_dIx (hu1 hr.units) (j_var 1) (j_var 4))) (jb_cons (js_if (jt_not (jt_tru (j_var 5))) (jb_one (js_ret (j_non))) (jb_nil)) (jb_one (js_expr (j_app (j_var 3) (j_var 6)))))))) (jb_one (js_ret (j_var 3))))))
theorem o_declarations_of (T : Top w K mg) (h_declaration_of : Fn P w K mg base 5 "declaration_of" ["signs"] f_declaration_of)   : Fn P w K mg base 6 "declarations_of" ["text", "known"] f_declarations_of := Fn.of T.d_declarations_of sc_declarations_of (fun _ _ _ _ _ _ us hl => match us, hl with | [_, _], _ => rfl) (y_declarations_of T h_declaration_of  )
abbrev s_selectors_of : Stmt := topS 34
theorem sc_selectors_of : FnScope ["text", "known", "selectors", "selector"] ["text", "known"] (defScope s_selectors_of) := ⟨rfl, rfl, rfl, by decide +kernel, rfl, by decide +kernel, by decide +kernel⟩
theorem y_selectors_of (T : Top w K mg) (h_compounds_of : Fn P w K mg base 5 "compounds_of" ["selector", "known"] f_compounds_of)   : Body P w K mg base 5 ["text", "known", "selectors", "selector"] "selectors_of" s_selectors_of b_selectors_of := fun f cdv A outer s H E hr =>
  have sc := sc_selectors_of
  jb_cons (js_set (jg_name 2 sc.nd) (j_mS PySem.F.plainAttrs_str PySem.F.slot_str_split PySem.F.type_str_split ms_split (j_var 0) (ja_cons (j_str [44, 32]) (ja_nil)))) (jb_cons (js_if (jt_cmp od_gt (j_bltB cb_len T.z_len PySem.boot_len (ja_cons (j_var 2) (ja_nil))) (j_glob T.g_MOST_SELECTORS)) (jb_one (js_ret (j_non))) (jb_nil)) (jb_cons (js_for PassesOwn.never rfl (ji_e (j_var 2)) (jg_name 3 sc.nd) (jb_one (js_if (jt_cmp od_is (j_call h_compounds_of hr (ja_cons (j_var 3) (ja_cons (j_var 1) (ja_nil)))) (j_non)) (jb_one (js_ret (j_non))) (jb_nil)))) (jb_one (js_ret (j_var 2)))))
theorem o_selectors_of (T : Top w K mg) (h_compounds_of : Fn P w K mg base 5 "compounds_of" ["selector", "known"] f_compounds_of)   : Fn P w K mg base 6 "selectors_of" ["text", "known"] f_selectors_of := Fn.of T.d_selectors_of sc_selectors_of (fun _ _ _ _ _ _ us hl => match us, hl with | [_, _], _ => rfl) (y_selectors_of T h_compounds_of  )
abbrev s_rule_of : Stmt := topS 33
theorem sc_rule_of : FnScope ["row", "compounds", "declarations", "selectors", "told", "ahead", "_", "behind"] ["row", "compounds", "declarations"] (defScope s_rule_of) := ⟨rfl, rfl, rfl, by decide +kernel, rfl, by decide +kernel, by decide +kernel⟩
theorem y_rule_of (T : Top w K mg) (h_declarations_of : Fn P w K mg base 6 "declarations_of" ["text", "known"] f_declarations_of) (h_selectors_of : Fn P w K mg base 6 "selectors_of" ["text", "known"] f_selectors_of)   : Body P w K mg base 6 ["row", "compounds", "declarations", "selectors", "told", "ahead", "_", "behind"] "rule_of" s_rule_of b_rule_of := fun f cdv A outer s H E hr =>
  have sc := sc_rule_of
  jb_cons (js_set (jg_tup rfl (jgs_cons (jg_name 5 sc.nd) (jgs_cons (jg_name 6 sc.nd) (jgs_cons (jg_name 7 sc.nd) (jgs_nil))))) (j_mS PySem.F.plainAttrs_str PySem.F.slot_str_partition PySem.F.type_str_partition ms_partition (j_var 0) (ja_cons (j_str [32, 123, 32]) (ja_nil)))) (jb_cons (js_if (jt_not (jt_val (j_mS PySem.F.plainAttrs_str PySem.F.slot_str_endswith PySem.F.type_str_endswith ms_endswith (j_var 7) (ja_cons (j_str [32, 125]) (ja_nil))))) (jb_one (js_ret (j_non))) (jb_nil)) (jb_cons (js_set (jg_name 3 sc.nd) (j_call h_selectors_of hr (ja_cons (j_var 5) (ja_cons (j_var 1) (ja_nil))))) (jb_cons (js_if (jt_cmp od_is (j_var 3) (j_non)) (jb_one (js_ret (j_non))) (jb_nil)) (jb_cons (js_set (jg_name 4 sc.nd) (j_call h_declarations_of hr (ja_cons (j_mS PySem.F.plainAttrs_str PySem.F.slot_str_removesuffix PySem.F.type_str_removesuffix ms_removesuffix (j_var 7) (ja_cons (j_str [32, 125]) (ja_nil))) (ja_cons (j_var 2) (ja_nil))))) (jb_one (js_ret (j_if (jt_cmp od_is (j_var 4) (j_non)) (j_non) (j_tup (ja_cons (j_var 3) (ja_cons (j_var 4) (ja_nil))) (few_of (few_cons (few_cons (few_nil))))))))))))
theorem o_rule_of (T : Top w K mg) (h_declarations_of : Fn P w K mg base 6 "declarations_of" ["text", "known"] f_declarations_of) (h_selectors_of : Fn P w K mg base 6 "selectors_of" ["text", "known"] f_selectors_of)   : Fn P w K mg base 7 "rule_of" ["row", "compounds", "declarations"] f_rule_of := Fn.of T.d_rule_of sc_rule_of (fun _ _ _ _ _ _ us hl => match us, hl with | [_, _, _], _ => rfl) (y_rule_of T h_declarations_of h_selectors_of  )
abbrev s_rules_of : Stmt := topS 30
theorem sc_rules_of : FnScope ["looks", "compounds", "declarations", "row"] ["looks"] (defScope s_rules_of) := ⟨rfl, rfl, rfl, by decide +kernel, rfl, by decide +kernel, by decide +kernel⟩
theorem y_rules_of (T : Top w K mg) (h_rule_of : Fn P w K mg base 7 "rule_of" ["row", "compounds", "declarations"] f_rule_of)   : Body P w K mg base 7 ["looks", "compounds", "declarations", "row"] "rules_of" s_rules_of b_rules_of := fun f cdv A outer s H E hr =>
  have sc := sc_rules_of
  jb_cons (js_set (jg_name 1 sc.nd) (j_dict0)) (jb_cons (js_set (jg_name 2 sc.nd) (j_dict0)) (jb_one (js_ret (j_comp [("row", 3)] rfl sc.nd (ji_e (j_mS PySem.F.plainAttrs_str PySem.F.slot_str_split PySem.F.type_str_split ms_split (j_var 0) (ja_cons (j_str [10]) (ja_nil)))) (blkOk_by (N := ["looks", "compounds", "declarations", "row"]) (sc := defScope s_rules_of) (by decide +kernel)) (fun _ _ _ _ _ => jg_name 3 sc.nd) (fun _ _ _ _ _ => jc_nil) (fun _ _ _ _ _ => j_call h_rule_of hr (ja_cons (j_var 3) (ja_cons (j_var 1) (ja_cons (j_var 2) (ja_nil))))) (by decide)))))
theorem o_rules_of (T : Top w K mg) (h_rule_of : Fn P w K mg base 7 "rule_of" ["row", "compounds", "declarations"] f_rule_of)   : Fn P w K mg base 8 "rules_of" ["looks"] f_rules_of := Fn.of T.d_rules_of sc_rules_of (fun _ _ _ _ _ _ us hl => match us, hl with | [_], _ => rfl) (y_rules_of T h_rule_of  )
abbrev s_own_declarations : Stmt := topS 32
theorem sc_own_declarations : FnScope ["text", "known", "declarations"] ["text", "known"] (defScope s_own_declarations) := ⟨rfl, rfl, rfl, by decide +kernel, rfl, by decide +kernel, by decide +kernel⟩
theorem y_own_declarations (T : Top w K mg) (h_declarations_of : Fn P w K mg base 6 "declarations_of" ["text", "known"] f_declarations_of)   : Body P w K mg base 6 ["text", "known", "declarations"] "own_declarations" s_own_declarations b_own_declarations := fun f cdv A outer s H E hr =>
  have sc := sc_own_declarations
  jb_cons (js_set (jg_name 2 sc.nd) (j_call h_declarations_of hr (ja_cons (j_var 0) (ja_cons (j_var 1) (ja_nil))))) (jb_one (js_ret (j_if (jt_cmp od_is (j_var 2) (j_non)) (j_cel (ja_nil) (few_of few_nil)) (j_var 2))))
theorem o_own_declarations (T : Top w K mg) (h_declarations_of : Fn P w K mg base 6 "declarations_of" ["text", "known"] f_declarations_of)   : Fn P w K mg base 7 "own_declarations" ["text", "known"] f_own_declarations := Fn.of T.d_own_declarations sc_own_declarations (fun _ _ _ _ _ _ us hl => match us, hl with | [_, _], _ => rfl) (y_own_declarations T h_declarations_of  )
abbrev s_own_rules : Stmt := topS 31
theorem sc_own_rules : FnScope ["text"] ["text"] (defScope s_own_rules) := ⟨rfl, rfl, rfl, by decide +kernel, rfl, by decide +kernel, by decide +kernel⟩
theorem y_own_rules (T : Top w K mg) (h_own_declarations : Fn P w K mg base 7 "own_declarations" ["text", "known"] f_own_declarations)   : Body P w K mg base 7 ["text"] "own_rules" s_own_rules b_own_rules := fun f cdv A outer s H E hr =>
  have sc := sc_own_rules
  jb_one (js_ret (j_call h_own_declarations hr (ja_cons (j_var 0) (ja_cons (j_dict0) (ja_nil)))))
theorem o_own_rules (T : Top w K mg) (h_own_declarations : Fn P w K mg base 7 "own_declarations" ["text", "known"] f_own_declarations)   : Fn P w K mg base 8 "own_rules" ["text"] f_own_rules := Fn.of T.d_own_rules sc_own_rules (fun _ _ _ _ _ _ us hl => match us, hl with | [_], _ => rfl) (y_own_rules T h_own_declarations  )
theorem ok_own_rules (T : Top w K mg) (h_own_declarations : Fn P w K mg base 7 "own_declarations" ["text", "known"] f_own_declarations)   : FnK P w K mg base 8 "own_rules" ["text"] f_own_rules := FnK.of T.d_own_rules sc_own_rules (fun _ _ _ _ _ _ us hl => match us, hl with | [_], _ => rfl) (fun _ _ _ _ _ _ us hl => match us, hl with | [_], _ => rfl) (y_own_rules T h_own_declarations  )
abbrev s__law_bag : Stmt := topS 39
theorem sc__law_bag : FnScope ["script", "stir", "cell"] ["script"] (defScope s__law_bag) := ⟨rfl, rfl, rfl, by decide +kernel, rfl, by decide +kernel, by decide +kernel⟩
theorem y__law_bag (T : Top w K mg)    : Body P w K mg base 0 ["script", "stir", "cell"] "_law_bag" s__law_bag b__law_bag := fun f cdv A outer s H E hr =>
  have sc := sc__law_bag
  jb_cons (js_set (jg_name 1 sc.nd) (j_int)) (jb_cons (js_for PassesOwn.never rfl (ji_e (j_sl (j_var 0) (jp_no) (jp_so (j_int)))) (jg_name 2 sc.nd) (jb_one (js_set (jg_name 1 sc.nd) (j_op od_mod (j_op od_add (j_op od_add (j_op od_mul (j_var 1) (j_int)) (j_op od_mod (j_var 2) (j_int))) (j_int)) (j_int))))) (jb_one (js_ret (j_cel (ja_cons (j_comp [("cell", 2)] rfl sc.nd (ji_e (j_sl (j_var 0) (jp_no) (jp_so (j_int)))) (blkOk_by (N := ["script", "stir", "cell"]) (sc := defScope s__law_bag) (by decide +kernel)) (fun _ _ _ _ _ => jg_name 2 sc.nd) (fun _ _ _ _ _ => jc_nil) (fun _ _ _ _ _ => j_op od_mod (j_bltB cb_abs T.z_abs (by decide +kernel) (ja_cons (j_var 2) (ja_nil))) (j_op od_pow (j_op od_pow (j_int) (j_int)) (j_int))) (by decide)) (ja_cons (j_int) (ja_cons (j_int) (ja_cons (j_var 1) (ja_cons (j_int) (ja_nil)))))) (few_of (few_cons (few_cons (few_cons (few_cons (few_cons (few_nil)))))))))))
theorem o__law_bag (T : Top w K mg)    : Fn P w K mg base 1 "_law_bag" ["script"] f__law_bag := Fn.of T.d__law_bag sc__law_bag (fun _ _ _ _ _ _ us hl => match us, hl with | [_], _ => rfl) (y__law_bag T   )
abbrev s__law_stirred : Stmt := topS 40
theorem sc__law_stirred : FnScope ["bag", "many", "found", "k"] ["bag", "many"] (defScope s__law_stirred) := ⟨rfl, rfl, rfl, by decide +kernel, rfl, by decide +kernel, by decide +kernel⟩
theorem y__law_stirred (T : Top w K mg)    : Body P w K mg base 0 ["bag", "many", "found", "k"] "_law_stirred" s__law_stirred b__law_stirred := fun f cdv A outer s H E hr =>
  have sc := sc__law_stirred
  jb_cons (js_set (jg_name 2 sc.nd) (j_int)) (jb_cons (js_for PassesOwn.never rfl (ji_rng1 (j_op od_add (j_int) (j_op od_div (j_bits (j_var 1)) (j_int))) T.z_range) (jg_name 3 sc.nd) (jb_cons (js_set (jg_ix (j_var 0) (j_int)) (j_op od_add (j_ix (j_var 0) (j_int)) (j_int))) (jb_cons (js_set (jg_ix (j_var 0) (j_int)) (j_op od_mod (j_op od_add (j_op od_add (j_op od_add (j_op od_pow (j_ix (j_var 0) (j_int)) (j_int)) (j_op od_mul (j_int) (j_ix (j_var 0) (j_int)))) (j_op od_mul (j_int) (j_ix (j_var 0) (j_int)))) (j_int)) (j_int))) (jb_one (js_set (jg_name 2 sc.nd) (j_op od_add (j_op od_mul (j_var 2) (j_int)) (j_op od_div (j_ix (j_var 0) (j_int)) (j_int)))))))) (jb_one (js_ret (j_op od_mod (j_var 2) (j_var 1)))))
theorem o__law_stirred (T : Top w K mg)    : Fn P w K mg base 1 "_law_stirred" ["bag", "many"] f__law_stirred := Fn.of T.d__law_stirred sc__law_stirred (fun _ _ _ _ _ _ us hl => match us, hl with | [_, _], _ => rfl) (y__law_stirred T   )
abbrev s__law_draw : Stmt := topS 41
theorem sc__law_draw : FnScope ["bag", "many", "found"] ["bag", "many"] (defScope s__law_draw) := ⟨rfl, rfl, rfl, by decide +kernel, rfl, by decide +kernel, by decide +kernel⟩
theorem y__law_draw (T : Top w K mg) (h__law_stirred : Fn P w K mg base 1 "_law_stirred" ["bag", "many"] f__law_stirred)   : Body P w K mg base 1 ["bag", "many", "found"] "_law_draw" s__law_draw b__law_draw := fun f cdv A outer s H E hr =>
  have sc := sc__law_draw
  jb_cons (js_if (jt_w (jw_and (jt_cmp (od_eq hr.units) (j_ix (j_var 0) (j_int)) (j_int)) (jw_and1 (jt_cmp od_lt (j_ix (j_var 0) (j_int)) (j_bltB cb_len T.z_len PySem.boot_len (ja_cons (j_ix (j_var 0) (j_int)) (ja_nil))))))) (jb_cons (js_set (jg_ix (j_var 0) (j_int)) (j_ix (j_ix (j_var 0) (j_int)) (j_ix (j_var 0) (j_int)))) (jb_one (js_set (jg_ix (j_var 0) (j_int)) (j_op od_add (j_ix (j_var 0) (j_int)) (j_int))))) (jb_one (js_if (jt_cmp (od_eq hr.units) (j_ix (j_var 0) (j_int)) (j_int)) (jb_one (js_ret (j_call h__law_stirred hr (ja_cons (j_var 0) (ja_cons (j_var 1) (ja_nil)))))) (jb_nil)))) (jb_cons (js_set (jg_name 2 sc.nd) (j_op od_mod (j_ix (j_var 0) (j_int)) (j_var 1))) (jb_cons (js_set (jg_ix (j_var 0) (j_int)) (j_op od_divW (j_ix (j_var 0) (j_int)) (j_var 1))) (jb_one (js_ret (j_var 2)))))
theorem o__law_draw (T : Top w K mg) (h__law_stirred : Fn P w K mg base 1 "_law_stirred" ["bag", "many"] f__law_stirred)   : Fn P w K mg base 2 "_law_draw" ["bag", "many"] f__law_draw := Fn.of T.d__law_draw sc__law_draw (fun _ _ _ _ _ _ us hl => match us, hl with | [_, _], _ => rfl) (y__law_draw T h__law_stirred  )
abbrev s__law_alike : Stmt := topS 42
theorem sc__law_alike : FnScope ["found", "due", "k"] ["found", "due"] (defScope s__law_alike) := ⟨rfl, rfl, rfl, by decide +kernel, rfl, by decide +kernel, by decide +kernel⟩
theorem y__law_alike (T : Top w K mg)    (n : Nat) (r : FD) (h_r : Fn P w K mg base (0 + n) "_law_alike" ["found", "due"] r) : Body P w K mg base (0 + n) ["found", "due", "k"] "_law_alike" s__law_alike (b__law_alike r) := fun f cdv A outer s H E hr =>
  have sc := sc__law_alike
  jb_cons (js_if (jt_val (j_isi2 T.z_isinstance (j_var 1) (j_ty T.z_list (by decide +kernel)) (j_ty T.z_tuple (by decide +kernel)))) (jb_cons (js_if (jt_w (jw_or (jt_not (jt_val (j_isi2 T.z_isinstance (j_var 0) (j_ty T.z_list (by decide +kernel)) (j_ty T.z_tuple (by decide +kernel))))) (jw_or1 (jt_cmp (od_ne hr.units) (j_bltB cb_isi T.z_isinstance (by decide +kernel) (ja_cons (j_var 0) (ja_cons (j_ty T.z_list (by decide +kernel)) (ja_nil)))) (j_bltB cb_isi T.z_isinstance (by decide +kernel) (ja_cons (j_var 1) (ja_cons (j_ty T.z_list (by decide +kernel)) (ja_nil)))))))) (jb_one (js_ret (j_bl))) (jb_nil)) (jb_cons (js_if (jt_cmp (od_ne hr.units) (j_bltB cb_len T.z_len PySem.boot_len (ja_cons (j_var 0) (ja_nil))) (j_bltB cb_len T.z_len PySem.boot_len (ja_cons (j_var 1) (ja_nil)))) (jb_one (js_ret (j_bl))) (jb_nil)) (jb_one (js_ret (j_bltB (cb_all rfl) T.z_all (by decide +kernel) (ja_cons (j_comp [("k", 2)] rfl sc.nd (ji_rng1 (j_bltB cb_len T.z_len PySem.boot_len (ja_cons (j_var 1) (ja_nil))) T.z_range) (blkOk_by (N := ["found", "due", "k"]) (sc := defScope s__law_alike) (by decide +kernel)) (fun _ _ _ _ _ => jg_name 2 sc.nd) (fun _ _ _ _ _ => jc_nil) (fun _ _ _ _ _ => j_call h_r hr (ja_cons (j_ix (j_var 0) (j_var 2)) (ja_cons (j_ix (j_var 1) (j_var 2)) (ja_nil)))) (by decide)) (ja_nil))))))) (jb_nil)) (jb_cons (js_if (jt_w (jw_or (jt_cmp (od_ne hr.units) (j_bltB cb_isi T.z_isinstance (by decide +kernel) (ja_cons (j_var 0) (ja_cons (j_ty T.z_bool (by decide +kernel)) (ja_nil)))) (j_bltB cb_isi T.z_isinstance (by decide +kernel) (ja_cons (j_var 1) (ja_cons (j_ty T.z_bool (by decide +kernel)) (ja_nil))))) (jw_or1 (jt_cmp (od_ne hr.units) (j_bltB cb_isi T.z_isinstance (by decide +kernel) (ja_cons (j_var 0) (ja_cons (j_ty T.z_int (by decide +kernel)) (ja_nil)))) (j_bltB cb_isi T.z_isinstance (by decide +kernel) (ja_cons (j_var 1) (ja_cons (j_ty T.z_int (by decide +kernel)) (ja_nil)))))))) (jb_one (js_ret (j_bl))) (jb_nil)) (jb_one (js_ret (j_and (j_cmp (od_eq hr.units) (j_bltB cb_isi T.z_isinstance (by decide +kernel) (ja_cons (j_var 0) (ja_cons (j_ty T.z_str (by decide +kernel)) (ja_nil)))) (j_bltB cb_isi T.z_isinstance (by decide +kernel) (ja_cons (j_var 1) (ja_cons (j_ty T.z_str (by decide +kernel)) (ja_nil))))) (j_one (j_cmp (od_eq hr.units) (j_var 0) (j_var 1)))))))
theorem o__law_alike (T : Top w K mg)    : Fn P w K mg base 6 "_law_alike" ["found", "due"] f__law_alike := Fn.deep (k := 0) (Fn.never T.d__law_alike (fun _ _ _ _ _ _ us hl => match us, hl with | [_, _], _ => rfl)) (fun n r h_r => Fn.of T.d__law_alike sc__law_alike (fun _ _ _ _ _ _ us hl => match us, hl with | [_, _], _ => rfl) (y__law_alike T    n r h_r)) 6
abbrev s__law_bounds : Stmt := topS 43
theorem sc__law_bounds : FnScope ["prop", "some"] ["prop"] (defScope s__law_bounds) := ⟨rfl, rfl, rfl, by decide +kernel, rfl, by decide +kernel, by decide +kernel⟩
theorem y__law_bounds (T : Top w K mg)    : Body P w K mg base 0 ["prop", "some"] "_law_bounds" s__law_bounds b__law_bounds := fun f cdv A outer s H E hr =>
  have sc := sc__law_bounds
  jb_cons (js_set (jg_name 1 sc.nd) (j_dict (jd_cons (j_str [100, 111, 119, 110]) (j_tup (ja_cons (j_un ud_neg (j_int)) (ja_cons (j_int) (ja_nil))) (few_of (few_cons (few_cons (few_nil))))) (jd_cons (j_str [108, 97, 121, 101, 114]) (j_tup (ja_cons (j_un ud_neg (j_int)) (ja_cons (j_int) (ja_nil))) (few_of (few_cons (few_cons (few_nil))))) (jd_cons (j_str [109, 97, 114, 103, 105, 110]) (j_tup (ja_cons (j_int) (ja_cons (j_int) (ja_nil))) (few_of (few_cons (few_cons (few_nil))))) (jd_cons (j_str [112, 97, 100]) (j_tup (ja_cons (j_int) (ja_cons (j_int) (ja_nil))) (few_of (few_cons (few_cons (few_nil))))) (jd_cons (j_str [114, 105, 103, 104, 116]) (j_tup (ja_cons (j_un ud_neg (j_int)) (ja_cons (j_int) (ja_nil))) (few_of (few_cons (few_cons (few_nil))))) (jd_nil)))))))) (jb_one (js_ret (j_get2 (hu_of hr) (j_var 1) (j_var 0) (j_tup (ja_cons (j_int) (ja_cons (j_int) (ja_nil))) (few_of (few_cons (few_cons (few_nil))))))))
theorem o__law_bounds (T : Top w K mg)    : Fn P w K mg base 1 "_law_bounds" ["prop"] f__law_bounds := Fn.of T.d__law_bounds sc__law_bounds (fun _ _ _ _ _ _ us hl => match us, hl with | [_], _ => rfl) (y__law_bounds T   )
abbrev s__law_props : Stmt := topS 44
theorem sc__law_props : FnScope [] [] (defScope s__law_props) := ⟨rfl, rfl, rfl, by decide +kernel, rfl, by decide +kernel, by decide +kernel⟩
theorem y__law_props (T : Top w K mg)    : Body P w K mg base 0 [] "_law_props" s__law_props b__law_props := fun f cdv A outer s H E hr =>
  have sc := sc__law_props
  jb_one (js_ret (j_mS PySem.F.plainAttrs_str PySem.F.slot_str_split PySem.F.type_str_split ms_split (j_str litc1d327) (ja_cons (j_str [32]) (ja_nil))))
theorem o__law_props (T : Top w K mg)    : Fn P w K mg base 1 "_law_props" [] f__law_props := Fn.of T.d__law_props sc__law_props (fun _ _ _ _ _ _ us hl => match us, hl with | [], _ => rfl) (y__law_props T   )
abbrev s__law_choices : Stmt := topS 45
theorem sc__law_choices : FnScope ["prop", "some", "one"] ["prop"] (defScope s__law_choices) := ⟨rfl, rfl, rfl, by decide +kernel, rfl, by decide +kernel, by decide +kernel⟩
theorem y__law_choices (T : Top w K mg)    : Body P w K mg base 0 ["prop", "some", "one"] "_law_choices" s__law_choices b__law_choices := fun f cdv A outer s H E hr =>
  have sc := sc__law_choices
  jb_cons (js_set (jg_name 1 sc.nd) (j_dict (jd_cons (j_str [97, 108, 105, 103, 110]) (j_str lita8567b) (jd_cons (j_str [98, 97, 99, 107]) (j_str lita20a0f) (jd_cons (j_str [98, 111, 114, 100, 101, 114]) (j_str [48, 32, 49]) (jd_nil)))))) (jb_cons (js_set (jg_dix (hu1 hr.units) (j_var 1) (j_str [99, 111, 108, 111, 114])) (j_str lit7da128)) (jb_cons (js_set (jg_dix (hu1 hr.units) (j_var 1) (j_str lit59b189)) (j_str litb2e97e)) (jb_cons (js_set (jg_dix (hu1 hr.units) (j_var 1) (j_str [104, 105, 100, 101])) (j_str [110, 111, 32, 121, 101, 115])) (jb_one (js_ret (j_comp [("one", 2)] rfl sc.nd (ji_e (j_mS PySem.F.plainAttrs_str PySem.F.slot_str_split PySem.F.type_str_split ms_split (j_get2 (hu_of hr) (j_var 1) (j_var 0) (j_str [])) (ja_cons (j_str [32]) (ja_nil)))) (blkOk_by (N := ["prop", "some", "one"]) (sc := defScope s__law_choices) (by decide +kernel)) (fun _ _ _ _ _ => jg_name 2 sc.nd) (fun _ _ _ _ _ => jc_one (jt_cmp (od_ne hr.units) (j_var 2) (j_str []))) (fun _ _ _ _ _ => j_var 2) (by decide)))))))
theorem o__law_choices (T : Top w K mg)    : Fn P w K mg base 1 "_law_choices" ["prop"] f__law_choices := Fn.of T.d__law_choices sc__law_choices (fun _ _ _ _ _ _ us hl => match us, hl with | [_], _ => rfl) (y__law_choices T   )
abbrev s__law_value : Stmt := topS 46
theorem sc__law_value : FnScope ["bag", "prop", "some", "many", "way", "least", "most"] ["bag", "prop"] (defScope s__law_value) := ⟨rfl, rfl, rfl, by decide +kernel, rfl, by decide +kernel, by decide +kernel⟩
theorem y__law_value (T : Top w K mg) (h__law_bounds : Fn P w K mg base 1 "_law_bounds" ["prop"] f__law_bounds) (h__law_choices : Fn P w K mg base 1 "_law_choices" ["prop"] f__law_choices) (h__law_draw : Fn P w K mg base 2 "_law_draw" ["bag", "many"] f__law_draw)   : Body P w K mg base 2 ["bag", "prop", "some", "many", "way", "least", "most"] "_law_value" s__law_value b__law_value := fun f cdv A outer s H E hr =>
  have sc := sc__law_value
  jb_cons (js_set (jg_name 2 sc.nd) (j_call h__law_choices (hr.mono (by decide)) (ja_cons (j_var 1) (ja_nil)))) (jb_cons (js_if (jt_neNil (hu0 hr.units) (j_var 2)) (jb_one (js_ret (j_ix (j_var 2) (j_call h__law_draw hr (ja_cons (j_var 0) (ja_cons (j_bltB cb_len T.z_len PySem.boot_len (ja_cons (j_var 2) (ja_nil))) (ja_nil))))))) (jb_nil)) (jb_cons (js_set (jg_name 3 sc.nd) (j_op od_add (j_int) (j_call h__law_draw hr (ja_cons (j_var 0) (ja_cons (j_int) (ja_nil)))))) (jb_cons (js_set (jg_name 4 sc.nd) (j_call h__law_draw hr (ja_cons (j_var 0) (ja_cons (j_int) (ja_nil))))) (jb_cons (js_if (jt_w (jw_and (jt_cmp (od_eq hr.units) (j_var 1) (j_str [119, 105, 100, 116, 104])) (jw_and1 (jt_cmp od_lt (j_var 4) (j_int))))) (jb_one (js_ret (j_ix (j_lst (ja_cons (j_str [97, 117, 116, 111]) (ja_cons (j_op od_add (j_op od_add (j_bltT cb_strI T.z_str (by decide +kernel) (ja_cons (j_op od_add (j_int) (j_call h__law_draw hr (ja_cons (j_var 0) (ja_cons (j_var 3) (ja_nil))))) (ja_nil))) (j_str [47])) (j_bltT cb_strI T.z_str (by decide +kernel) (ja_cons (j_var 3) (ja_nil)))) (ja_nil))) (few_of (few_cons (few_cons (few_nil))))) (j_var 4)))) (jb_nil)) (jb_cons (js_set (jg_tup rfl (jgs_cons (jg_name 5 sc.nd) (jgs_cons (jg_name 6 sc.nd) (jgs_nil)))) (j_call h__law_bounds (hr.mono (by decide)) (ja_cons (j_var 1) (ja_nil)))) (jb_one (js_ret (j_bltT cb_strI T.z_str (by decide +kernel) (ja_cons (j_op od_add (j_var 5) (j_call h__law_draw hr (ja_cons (j_var 0) (ja_cons (j_op od_add (j_op od_sub (j_var 6) (j_var 5)) (j_int)) (ja_nil))))) (ja_nil))))))))))
theorem o__law_value (T : Top w K mg) (h__law_bounds : Fn P w K mg base 1 "_law_bounds" ["prop"] f__law_bounds) (h__law_choices : Fn P w K mg base 1 "_law_choices" ["prop"] f__law_choices) (h__law_draw : Fn P w K mg base 2 "_law_draw" ["bag", "many"] f__law_draw)   : Fn P w K mg base 3 "_law_value" ["bag", "prop"] f__law_value := Fn.of T.d__law_value sc__law_value (fun _ _ _ _ _ _ us hl => match us, hl with | [_, _], _ => rfl) (y__law_value T h__law_bounds h__law_choices h__law_draw  )
abbrev s__law_no_value : Stmt := topS 47
theorem sc__law_no_value : FnScope ["bag", "prop", "some", "least", "most"] ["bag", "prop"] (defScope s__law_no_value) := ⟨rfl, rfl, rfl, by decide +kernel, rfl, by decide +kernel, by decide +kernel⟩
theorem y__law_no_value (T : Top w K mg) (h__law_bounds : Fn P w K mg base 1 "_law_bounds" ["prop"] f__law_bounds) (h__law_draw : Fn P w K mg base 2 "_law_draw" ["bag", "many"] f__law_draw)   : Body P w K mg base 2 ["bag", "prop", "some", "least", "most"] "_law_no_value" s__law_no_value b__law_no_value := fun f cdv A outer s H E hr =>
  have sc := sc__law_no_value
  jb_cons (js_if (jt_cmp (od_eq hr.units) (j_call h__law_draw hr (ja_cons (j_var 0) (ja_cons (j_int) (ja_nil)))) (j_int)) (jb_one (js_ret (j_tup (ja_cons (j_ix (j_lst (ja_cons (j_str [99, 111, 108, 111, 114, 115]) (ja_cons (j_str lit09a99f) (ja_cons (j_str [122]) (ja_cons (j_str [119, 105, 100, 116]) (ja_cons (j_str [108, 111, 111, 107]) (ja_cons (j_str [105, 100]) (ja_cons (j_str [97, 108, 105, 103, 110, 115]) (ja_nil)))))))) (few_of (few_cons (few_cons (few_cons (few_cons (few_cons (few_cons (few_cons (few_nil)))))))))) (j_call h__law_draw hr (ja_cons (j_var 0) (ja_cons (j_int) (ja_nil))))) (ja_cons (j_str [114, 101, 100]) (ja_nil))) (few_of (few_cons (few_cons (few_nil))))))) (jb_nil)) (jb_cons (js_set (jg_name 2 sc.nd) (j_lst (ja_cons (j_str [45, 48]) (ja_cons (j_str [48, 48]) (ja_cons (j_str [48, 49]) (ja_cons (j_str [43, 49]) (ja_cons (j_str [49, 46, 48]) (ja_cons (j_str [49, 32, 48]) (ja_cons (j_str [114, 101, 100, 33]) (ja_cons (j_str [33]) (ja_cons (j_str lit759d34) (ja_cons (j_str [65, 117, 116, 111]) (ja_cons (j_str [49, 47, 48]) (ja_cons (j_str [48, 47, 49]) (ja_cons (j_str [49, 51, 47, 49, 51]) (ja_nil)))))))))))))) (few_of (few_cons (few_cons (few_cons (few_cons (few_cons (few_cons (few_cons (few_cons (few_cons (few_cons (few_cons (few_cons (few_cons (few_nil))))))))))))))))) (jb_cons (js_set (jg_name 2 sc.nd) (j_op od_add (j_var 2) (j_lst (ja_cons (j_str [49, 47, 50, 47, 51]) (ja_cons (j_str [47]) (ja_cons (j_str [45, 49, 47, 50]) (ja_cons (j_str [48, 49, 47, 50]) (ja_cons (j_str [110, 111, 32, 110, 101]) (ja_cons (j_str [35, 49]) (ja_cons (j_str [49, 47]) (ja_cons (j_str [45, 45, 49]) (ja_cons (j_str lit5a4984) (ja_cons (j_str [49, 58, 32, 50]) (ja_cons (j_op od_mul (j_str [57]) (j_int)) (ja_nil)))))))))))) (few_of (few_cons (few_cons (few_cons (few_cons (few_cons (few_cons (few_cons (few_cons (few_cons (few_cons (few_cons (few_nil)))))))))))))))) (jb_cons (js_set (jg_tup rfl (jgs_cons (jg_name 3 sc.nd) (jgs_cons (jg_name 4 sc.nd) (jgs_nil)))) (j_call h__law_bounds (hr.mono (by decide)) (ja_cons (j_var 1) (ja_nil)))) (jb_cons (js_set (jg_name 2 sc.nd) (j_op od_add (j_var 2) (j_lst (ja_cons (j_str [50, 47, 49]) (ja_cons (j_str [49, 47, 49, 51]) (ja_cons (j_bltT cb_strI T.z_str (by decide +kernel) (ja_cons (j_op od_add (j_bltB (cb_max2 rfl) T.z_max (by decide +kernel) (ja_cons (j_var 4) (ja_cons (j_int) (ja_nil)))) (j_int)) (ja_nil))) (ja_cons (j_bltT cb_strI T.z_str (by decide +kernel) (ja_cons (j_op od_sub (j_bltB (cb_min2 rfl) T.z_min (by decide +kernel) (ja_cons (j_var 3) (ja_cons (j_int) (ja_nil)))) (j_int)) (ja_nil))) (ja_nil))))) (few_of (few_cons (few_cons (few_cons (few_cons (few_nil))))))))) (jb_cons (js_set (jg_name 2 sc.nd) (j_op od_add (j_var 2) (j_lst (ja_cons (j_str [39, 120, 39]) (ja_cons (j_str [114, 103, 98, 40, 48, 41]) (ja_cons (j_str [97, 95, 98]) (ja_cons (j_str [120, 32, 38, 32, 121]) (ja_cons (j_str [82, 101, 100]) (ja_cons (j_op od_mul (j_str [120]) (j_int)) (ja_nil))))))) (few_of (few_cons (few_cons (few_cons (few_cons (few_cons (few_cons (few_nil))))))))))) (jb_one (js_ret (j_tup (ja_cons (j_var 1) (ja_cons (j_ix (j_var 2) (j_call h__law_draw hr (ja_cons (j_var 0) (ja_cons (j_bltB cb_len T.z_len PySem.boot_len (ja_cons (j_var 2) (ja_nil))) (ja_nil))))) (ja_nil))) (few_of (few_cons (few_cons (few_nil))))))))))))
theorem o__law_no_value (T : Top w K mg) (h__law_bounds : Fn P w K mg base 1 "_law_bounds" ["prop"] f__law_bounds) (h__law_draw : Fn P w K mg base 2 "_law_draw" ["bag", "many"] f__law_draw)   : Fn P w K mg base 3 "_law_no_value" ["bag", "prop"] f__law_no_value := Fn.of T.d__law_no_value sc__law_no_value (fun _ _ _ _ _ _ us hl => match us, hl with | [_, _], _ => rfl) (y__law_no_value T h__law_bounds h__law_draw  )
abbrev s__law_declaration : Stmt := topS 48
theorem sc__law_declaration : FnScope ["bag", "prop", "strong", "way"] ["bag"] (defScope s__law_declaration) := ⟨rfl, rfl, rfl, by decide +kernel, rfl, by decide +kernel, by decide +kernel⟩
theorem y__law_declaration (T : Top w K mg) (h__law_draw : Fn P w K mg base 2 "_law_draw" ["bag", "many"] f__law_draw) (h__law_no_value : Fn P w K mg base 3 "_law_no_value" ["bag", "prop"] f__law_no_value) (h__law_props : Fn P w K mg base 1 "_law_props" [] f__law_props) (h__law_value : Fn P w K mg base 3 "_law_value" ["bag", "prop"] f__law_value)   : Body P w K mg base 3 ["bag", "prop", "strong", "way"] "_law_declaration" s__law_declaration b__law_declaration := fun f cdv A outer s H E hr =>
  have sc := sc__law_declaration
  jb_cons (js_set (jg_name 1 sc.nd) (j_ix (j_call0 h__law_props (hr.mono (by decide))) (j_call h__law_draw (hr.mono (by decide)) (ja_cons (j_var 0) (ja_cons (j_int) (ja_nil)))))) (jb_cons (js_set (jg_name 2 sc.nd) (j_cmp (od_eq hr.units) (j_call h__law_draw (hr.mono (by decide)) (ja_cons (j_var 0) (ja_cons (j_int) (ja_nil)))) (j_int))) (jb_cons (js_set (jg_name 3 sc.nd) (j_call h__law_draw (hr.mono (by decide)) (ja_cons (j_var 0) (ja_cons (j_int) (ja_nil))))) (jb_cons (js_if (jt_cmp (od_eq hr.units) (j_var 3) (j_int)) (jb_one (js_ret (j_op od_add (j_call h__law_no_value hr (ja_cons (j_var 0) (ja_cons (j_var 1) (ja_nil)))) (j_tup (ja_cons (j_var 2) (ja_cons (j_bl) (ja_nil))) (few_of (few_cons (few_cons (few_nil)))))))) (jb_nil)) (jb_one (js_ret (j_tup (ja_cons (j_var 1) (ja_cons (j_if (jt_cmp (od_eq hr.units) (j_var 3) (j_int)) (j_str lit3e26d6) (j_call h__law_value hr (ja_cons (j_var 0) (ja_cons (j_var 1) (ja_nil))))) (ja_cons (j_var 2) (ja_cons (j_bl) (ja_nil))))) (few_of (few_cons (few_cons (few_cons (few_cons (few_nil))))))))))))
theorem o__law_declaration (T : Top w K mg) (h__law_draw : Fn P w K mg base 2 "_law_draw" ["bag", "many"] f__law_draw) (h__law_no_value : Fn P w K mg base 3 "_law_no_value" ["bag", "prop"] f__law_no_value) (h__law_props : Fn P w K mg base 1 "_law_props" [] f__law_props) (h__law_value : Fn P w K mg base 3 "_law_value" ["bag", "prop"] f__law_value)   : Fn P w K mg base 4 "_law_declaration" ["bag"] f__law_declaration := Fn.of T.d__law_declaration sc__law_declaration (fun _ _ _ _ _ _ us hl => match us, hl with | [_], _ => rfl) (y__law_declaration T h__law_draw h__law_no_value h__law_props h__law_value  )
abbrev s__law_declared : Stmt := topS 49
theorem sc__law_declared : FnScope ["one"] ["one"] (defScope s__law_declared) := ⟨rfl, rfl, rfl, by decide +kernel, rfl, by decide +kernel, by decide +kernel⟩
theorem y__law_declared (T : Top w K mg)    : Body P w K mg base 0 ["one"] "_law_declared" s__law_declared b__law_declared := fun f cdv A outer s H E hr =>
  have sc := sc__law_declared
  jb_one (js_ret (j_op od_add (j_op od_add (j_op od_add (j_ix (j_var 0) (j_int)) (j_str [58, 32])) (j_ix (j_var 0) (j_int))) (j_ix (j_lst (ja_cons (j_str []) (ja_cons (j_str [32, 33]) (ja_nil))) (few_of (few_cons (few_cons (few_nil))))) (j_bltT cb_int T.z_int (by decide +kernel) (ja_cons (j_ix (j_var 0) (j_int)) (ja_nil))))))
theorem o__law_declared (T : Top w K mg)    : Fn P w K mg base 1 "_law_declared" ["one"] f__law_declared := Fn.of T.d__law_declared sc__law_declared (fun _ _ _ _ _ _ us hl => match us, hl with | [_], _ => rfl) (y__law_declared T   )
abbrev s__law_own_look : Stmt := topS 50
theorem sc__law_own_look : FnScope ["bag", "known", "row", "line", "some", "k", "one"] ["bag", "known"] (defScope s__law_own_look) := ⟨rfl, rfl, rfl, by decide +kernel, rfl, by decide +kernel, by decide +kernel⟩
theorem y__law_own_look (T : Top w K mg) (h__law_declaration : Fn P w K mg base 4 "_law_declaration" ["bag"] f__law_declaration) (h__law_declared : Fn P w K mg base 1 "_law_declared" ["one"] f__law_declared) (h__law_draw : Fn P w K mg base 2 "_law_draw" ["bag", "many"] f__law_draw)   : Body P w K mg base 4 ["bag", "known", "row", "line", "some", "k", "one"] "_law_own_look" s__law_own_look b__law_own_look := fun f cdv A outer s H E hr =>
  have sc := sc__law_own_look
  jb_cons (js_if (jt_cmp (od_eq hr.units) (j_call h__law_draw (hr.mono (by decide)) (ja_cons (j_var 0) (ja_cons (j_int) (ja_nil)))) (j_int)) (jb_cons (js_set (jg_name 4 sc.nd) (j_lst (ja_cons (j_str []) (ja_cons (j_str lit32f331) (ja_cons (j_str [112, 97, 100, 58, 49]) (ja_cons (j_str lit082620) (ja_cons (j_str lit676e45) (ja_cons (j_str [80, 97, 100, 58, 32, 49]) (ja_cons (j_str [112, 97, 100, 58, 32]) (ja_cons (j_str litbb6193) (ja_nil))))))))) (few_of (few_cons (few_cons (few_cons (few_cons (few_cons (few_cons (few_cons (few_cons (few_nil)))))))))))) (jb_cons (js_set (jg_name 3 sc.nd) (j_ix (j_var 4) (j_call h__law_draw (hr.mono (by decide)) (ja_cons (j_var 0) (ja_cons (j_int) (ja_nil)))))) (jb_cons (js_set (jg_dix (hu1 hr.units) (j_var 1) (j_var 3)) (j_lst (ja_nil) (few_of few_nil))) (jb_one (js_ret (j_var 3)))))) (jb_nil)) (jb_cons (js_setLc 2 [("k", 5)] rfl sc.nd (ji_rng1 (j_ix (j_lst (ja_cons (j_int) (ja_cons (j_int) (ja_cons (j_int) (ja_cons (j_int) (ja_cons (j_int) (ja_cons (j_int) (ja_nil))))))) (few_of (few_cons (few_cons (few_cons (few_cons (few_cons (few_cons (few_nil))))))))) (j_call h__law_draw (hr.mono (by decide)) (ja_cons (j_var 0) (ja_cons (j_int) (ja_nil))))) T.z_range) (blkOk_by (N := ["bag", "known", "row", "line", "some", "k", "one"]) (sc := defScope s__law_own_look) (by decide +kernel)) (fun _ _ _ _ _ => jg_name 5 sc.nd) (fun _ _ _ _ _ => jc_nil) (fun _ _ _ _ _ => j_call h__law_declaration hr (ja_cons (j_var 0) (ja_nil))) (by decide)) (jb_cons (js_set (jg_name 3 sc.nd) (j_mS PySem.F.plainAttrs_str PySem.F.slot_str_join PySem.F.type_str_join ms_join (j_str [59, 32]) (ja_cons (j_comp [("one", 6)] rfl sc.nd (ji_e (j_var 2)) (blkOk_by (N := ["bag", "known", "row", "line", "some", "k", "one"]) (sc := defScope s__law_own_look) (by decide +kernel)) (fun _ _ _ _ _ => jg_name 6 sc.nd) (fun _ _ _ _ _ => jc_nil) (fun _ _ _ _ _ => j_call h__law_declared (hr.mono (by decide)) (ja_cons (j_var 6) (ja_nil))) (by decide)) (ja_nil)))) (jb_cons (js_set (jg_dix (hu1 hr.units) (j_var 1) (j_var 3)) (j_var 2)) (jb_one (js_ret (j_var 3))))))
theorem o__law_own_look (T : Top w K mg) (h__law_declaration : Fn P w K mg base 4 "_law_declaration" ["bag"] f__law_declaration) (h__law_declared : Fn P w K mg base 1 "_law_declared" ["one"] f__law_declared) (h__law_draw : Fn P w K mg base 2 "_law_draw" ["bag", "many"] f__law_draw)   : Fn P w K mg base 5 "_law_own_look" ["bag", "known"] f__law_own_look := Fn.of T.d__law_own_look sc__law_own_look (fun _ _ _ _ _ _ us hl => match us, hl with | [_, _], _ => rfl) (y__law_own_look T h__law_declaration h__law_declared h__law_draw  )
abbrev s__law_is_word : Stmt := topS 51
theorem sc__law_is_word : FnScope ["line", "letters", "odd", "sign"] ["line"] (defScope s__law_is_word) := ⟨rfl, rfl, rfl, by decide +kernel, rfl, by decide +kernel, by decide +kernel⟩
theorem y__law_is_word (T : Top w K mg)    : Body P w K mg base 0 ["line", "letters", "odd", "sign"] "_law_is_word" s__law_is_word b__law_is_word := fun f cdv A outer s H E hr =>
  have sc := sc__law_is_word
  jb_cons (js_set (jg_name 1 sc.nd) (j_str lit32d10c)) (jb_cons (js_setLc 2 [("sign", 3)] rfl sc.nd (ji_e (j_var 0)) (blkOk_by (N := ["line", "letters", "odd", "sign"]) (sc := defScope s__law_is_word) (by decide +kernel)) (fun _ _ _ _ _ => jg_name 3 sc.nd) (fun _ _ _ _ _ => jc_one (jt_cmp od_notIn (j_var 3) (j_op od_add (j_var 1) (j_str [45])))) (fun _ _ _ _ _ => j_var 3) (by decide)) (jb_one (js_ret (j_and (j_chain od_lt od_lt (j_int) (j_bltB cb_len T.z_len PySem.boot_len (ja_cons (j_var 0) (ja_nil))) (j_int)) (j_and (j_eqNil (hu0 hr.units) (j_var 2)) (j_one (j_cmp (od_ne hr.units) (j_ix (j_var 0) (j_int)) (j_str [45]))))))))
theorem o__law_is_word (T : Top w K mg)    : Fn P w K mg base 1 "_law_is_word" ["line"] f__law_is_word := Fn.of T.d__law_is_word sc__law_is_word (fun _ _ _ _ _ _ us hl => match us, hl with | [_], _ => rfl) (y__law_is_word T   )
abbrev s__law_values : Stmt := topS 52
theorem sc__law_values : FnScope ["prop", "found", "m", "least", "most", "k", "n"] ["prop"] (defScope s__law_values) := ⟨rfl, rfl, rfl, by decide +kernel, rfl, by decide +kernel, by decide +kernel⟩
theorem y__law_values (T : Top w K mg) (h__law_bounds : Fn P w K mg base 1 "_law_bounds" ["prop"] f__law_bounds) (h__law_choices : Fn P w K mg base 1 "_law_choices" ["prop"] f__law_choices) (h__law_props : Fn P w K mg base 1 "_law_props" [] f__law_props)   : Body P w K mg base 1 ["prop", "found", "m", "least", "most", "k", "n"] "_law_values" s__law_values b__law_values := fun f cdv A outer s H E hr =>
  have sc := sc__law_values
  jb_cons (js_if (jt_cmp od_notIn (j_var 0) (j_call0 h__law_props hr)) (jb_one (js_ret (j_lst (ja_nil) (few_of few_nil)))) (jb_nil)) (jb_cons (js_set (jg_name 1 sc.nd) (j_op od_add (j_lst (ja_cons (j_str lit3e26d6) (ja_nil)) (few_of (few_cons (few_nil)))) (j_call h__law_choices hr (ja_cons (j_var 0) (ja_nil))))) (jb_cons (js_if (jt_cmp od_gt (j_bltB cb_len T.z_len PySem.boot_len (ja_cons (j_var 1) (ja_nil))) (j_int)) (jb_one (js_ret (j_var 1))) (jb_nil)) (jb_cons (js_set (jg_tup rfl (jgs_cons (jg_name 3 sc.nd) (jgs_cons (jg_name 4 sc.nd) (jgs_nil)))) (j_call h__law_bounds hr (ja_cons (j_var 0) (ja_nil)))) (jb_cons (js_set (jg_name 1 sc.nd) (j_op od_add (j_var 1) (j_comp [("k", 5)] rfl sc.nd (ji_rng2 (j_var 3) (j_op od_add (j_var 4) (j_int)) T.z_range) (blkOk_by (N := ["prop", "found", "m", "least", "most", "k", "n"]) (sc := defScope s__law_values) (by decide +kernel)) (fun _ _ _ _ _ => jg_name 5 sc.nd) (fun _ _ _ _ _ => jc_nil) (fun _ _ _ _ _ => j_bltT cb_strI T.z_str (by decide +kernel) (ja_cons (j_var 5) (ja_nil))) (by decide)))) (jb_cons (js_for PassesOwn.never rfl (ji_rng2 (j_int) (j_op od_mul (j_int) (j_bltT cb_int T.z_int (by decide +kernel) (ja_cons (j_cmp (od_eq hr.units) (j_var 0) (j_str [119, 105, 100, 116, 104])) (ja_nil)))) T.z_range) (jg_name 2 sc.nd) (jb_one (js_set (jg_name 1 sc.nd) (j_op od_add (j_op od_add (j_var 1) (j_lst (ja_cons (j_str [97, 117, 116, 111]) (ja_nil)) (few_of (few_cons (few_nil))))) (j_comp [("n", 6)] rfl sc.nd (ji_rng2 (j_int) (j_op od_add (j_var 2) (j_int)) T.z_range) (blkOk_by (N := ["prop", "found", "m", "least", "most", "k", "n"]) (sc := defScope s__law_values) (by decide +kernel)) (fun _ _ _ _ _ => jg_name 6 sc.nd) (fun _ _ _ _ _ => jc_nil) (fun _ _ _ _ _ => j_op od_add (j_op od_add (j_bltT cb_strI T.z_str (by decide +kernel) (ja_cons (j_var 6) (ja_nil))) (j_str [47])) (j_bltT cb_strI T.z_str (by decide +kernel) (ja_cons (j_var 2) (ja_nil)))) (by decide)))))) (jb_one (js_ret (j_var 1))))))))
theorem o__law_values (T : Top w K mg) (h__law_bounds : Fn P w K mg base 1 "_law_bounds" ["prop"] f__law_bounds) (h__law_choices : Fn P w K mg base 1 "_law_choices" ["prop"] f__law_choices) (h__law_props : Fn P w K mg base 1 "_law_props" [] f__law_props)   : Fn P w K mg base 2 "_law_values" ["prop"] f__law_values := Fn.of T.d__law_values sc__law_values (fun _ _ _ _ _ _ us hl => match us, hl with | [_], _ => rfl) (y__law_values T h__law_bounds h__law_choices h__law_props  )
abbrev s__law_declaration_of : Stmt := topS 53
theorem sc__law_declaration_of : FnScope ["line", "at", "rest", "strong", "odd", "sign"] ["line"] (defScope s__law_declaration_of) := ⟨rfl, rfl, rfl, by decide +kernel, rfl, by decide +kernel, by decide +kernel⟩
theorem y__law_declaration_of (T : Top w K mg) (h__law_is_word : Fn P w K mg base 1 "_law_is_word" ["line"] f__law_is_word)   : Body P w K mg base 1 ["line", "at", "rest", "strong", "odd", "sign"] "_law_declaration_of" s__law_declaration_of b__law_declaration_of := fun f cdv A outer s H E hr =>
  have sc := sc__law_declaration_of
  jb_cons (js_set (jg_name 1 sc.nd) (j_mS PySem.F.plainAttrs_str PySem.F.slot_str_find PySem.F.type_str_find ms_find (j_var 0) (ja_cons (j_str [58, 32]) (ja_nil)))) (jb_cons (js_if (jt_w (jw_or (jt_cmp od_lt (j_var 1) (j_int)) (jw_or1 (jt_not (jt_val (j_call h__law_is_word hr (ja_cons (j_sl (j_var 0) (jp_no) (jp_so (j_var 1))) (ja_nil)))))))) (jb_one (js_ret (j_non))) (jb_nil)) (jb_cons (js_set (jg_name 2 sc.nd) (j_sl (j_var 0) (jp_so (j_op od_add (j_var 1) (j_int))) (jp_no))) (jb_cons (js_set (jg_name 3 sc.nd) (j_mS PySem.F.plainAttrs_str PySem.F.slot_str_endswith PySem.F.type_str_endswith ms_endswith (j_var 2) (ja_cons (j_str [32, 33]) (ja_nil)))) (jb_cons (js_if (jt_tru (j_var 3)) (jb_one (js_set (jg_name 2 sc.nd) (j_sl (j_var 2) (jp_no) (jp_so (j_op od_sub (j_bltB cb_len T.z_len PySem.boot_len (ja_cons (j_var 2) (ja_nil))) (j_int)))))) (jb_nil)) (jb_cons (js_setLc 4 [("sign", 5)] rfl sc.nd (ji_e (j_var 2)) (blkOk_by (N := ["line", "at", "rest", "strong", "odd", "sign"]) (sc := defScope s__law_declaration_of) (by decide +kernel)) (fun _ _ _ _ _ => jg_name 5 sc.nd) (fun _ _ _ _ _ => jc_one (jt_cmp od_in (j_var 5) (j_str [59, 123, 125, 10]))) (fun _ _ _ _ _ => j_var 5) (by decide)) (jb_cons (js_if (jt_w (jw_or (jt_cmp (od_eq hr.units) (j_var 2) (j_str [])) (jw_or (jt_cmp (od_eq hr.units) (j_ix (j_var 2) (j_int)) (j_str [32])) (jw_or (jt_cmp (od_eq hr.units) (j_ix (j_var 2) (j_un ud_neg (j_int))) (j_str [32])) (jw_or1 (jt_neNil (hu0 hr.units) (j_var 4))))))) (jb_one (js_ret (j_non))) (jb_nil)) (jb_one (js_ret (j_tup (ja_cons (j_sl (j_var 0) (jp_no) (jp_so (j_var 1))) (ja_cons (j_var 2) (ja_cons (j_var 3) (ja_nil)))) (few_of (few_cons (few_cons (few_cons (few_nil))))))))))))))
theorem o__law_declaration_of (T : Top w K mg) (h__law_is_word : Fn P w K mg base 1 "_law_is_word" ["line"] f__law_is_word)   : Fn P w K mg base 2 "_law_declaration_of" ["line"] f__law_declaration_of := Fn.of T.d__law_declaration_of sc__law_declaration_of (fun _ _ _ _ _ _ us hl => match us, hl with | [_], _ => rfl) (y__law_declaration_of T h__law_is_word  )
abbrev s__law_declarations_of : Stmt := topS 54
theorem sc__law_declarations_of : FnScope ["line", "found", "one"] ["line"] (defScope s__law_declarations_of) := ⟨rfl, rfl, rfl, by decide +kernel, rfl, by decide +kernel, by decide +kernel⟩
theorem y__law_declarations_of (T : Top w K mg) (h__law_declaration_of : Fn P w K mg base 2 "_law_declaration_of" ["line"] f__law_declaration_of) (h__law_values : Fn P w K mg base 2 "_law_values" ["prop"] f__law_values)   : Body P w K mg base 2 ["line", "found", "one"] "_law_declarations_of" s__law_declarations_of b__law_declarations_of := fun f cdv A outer s H E hr =>
  have sc := sc__law_declarations_of
  jb_cons (js_setLc 1 [("one", 2)] rfl sc.nd (ji_e (j_mS PySem.F.plainAttrs_str PySem.F.slot_str_split PySem.F.type_str_split ms_split (j_var 0) (ja_cons (j_str [59, 32]) (ja_nil)))) (blkOk_by (N := ["line", "found", "one"]) (sc := defScope s__law_declarations_of) (by decide +kernel)) (fun _ _ _ _ _ => jg_name 2 sc.nd) (fun _ _ _ _ _ => jc_nil) (fun _ _ _ _ _ => j_call h__law_declaration_of hr (ja_cons (j_var 2) (ja_nil))) (by decide)) (jb_cons (js_if (jt_w (jw_or (jt_cmp (od_inD hr.units) (j_non) (j_var 1)) (jw_or1 (jt_cmp od_gt (j_bltB cb_len T.z_len PySem.boot_len (ja_cons (j_var 1) (ja_nil))) (j_int))))) (jb_one (js_ret (j_non))) (jb_nil)) (jb_one (js_ret (j_comp [("one", 2)] rfl sc.nd (ji_e (j_var 1)) (blkOk_by (N := ["line", "found", "one"]) (sc := defScope s__law_declarations_of) (by decide +kernel)) (fun _ _ _ _ _ => jg_name 2 sc.nd) (fun _ _ _ _ _ => jc_nil) (fun _ _ _ _ _ => j_if (jt_cmp od_in (j_ix (j_var 2) (j_int)) (j_call h__law_values hr (ja_cons (j_ix (j_var 2) (j_int)) (ja_nil)))) (j_var 2) (j_non)) (by decide)))))
theorem o__law_declarations_of (T : Top w K mg) (h__law_declaration_of : Fn P w K mg base 2 "_law_declaration_of" ["line"] f__law_declaration_of) (h__law_values : Fn P w K mg base 2 "_law_values" ["prop"] f__law_values)   : Fn P w K mg base 3 "_law_declarations_of" ["line"] f__law_declarations_of := Fn.of T.d__law_declarations_of sc__law_declarations_of (fun _ _ _ _ _ _ us hl => match us, hl with | [_], _ => rfl) (y__law_declarations_of T h__law_declaration_of h__law_values  )
abbrev s__law_spoilt : Stmt := topS 55
theorem sc__law_spoilt : FnScope ["bag", "line", "way", "at", "signs", "sign", "some"] ["bag", "line"] (defScope s__law_spoilt) := ⟨rfl, rfl, rfl, by decide +kernel, rfl, by decide +kernel, by decide +kernel⟩
theorem y__law_spoilt (T : Top w K mg) (h__law_draw : Fn P w K mg base 2 "_law_draw" ["bag", "many"] f__law_draw)   : Body P w K mg base 2 ["bag", "line", "way", "at", "signs", "sign", "some"] "_law_spoilt" s__law_spoilt b__law_spoilt := fun f cdv A outer s H E hr =>
  have sc := sc__law_spoilt
  jb_cons (js_set (jg_name 2 sc.nd) (j_call h__law_draw hr (ja_cons (j_var 0) (ja_cons (j_int) (ja_nil))))) (jb_cons (js_set (jg_name 3 sc.nd) (j_call h__law_draw hr (ja_cons (j_var 0) (ja_cons (j_op od_add (j_bltB cb_len T.z_len PySem.boot_len (ja_cons (j_var 1) (ja_nil))) (j_int)) (ja_nil))))) (jb_cons (js_set (jg_name 4 sc.nd) (j_str lited6597)) (jb_cons (js_set (jg_name 5 sc.nd) (j_ix (j_var 4) (j_call h__law_draw hr (ja_cons (j_var 0) (ja_cons (j_bltB cb_len T.z_len PySem.boot_len (ja_cons (j_var 4) (ja_nil))) (ja_nil)))))) (jb_cons (js_set (jg_name 6 sc.nd) (j_lst (ja_cons (j_str [32]) (ja_cons (j_str [44, 32]) (ja_cons (j_str [32, 62, 32]) (ja_cons (j_str [59, 32]) (ja_cons (j_str [58, 32]) (ja_cons (j_str [32, 123, 32]) (ja_cons (j_str [32, 125]) (ja_cons (j_str [32, 33]) (ja_cons (j_str [58, 102, 105, 114, 115, 116]) (ja_cons (j_str [91, 97, 93]) (ja_cons (j_str [91, 97, 61, 48, 93]) (ja_cons (j_str [42]) (ja_cons (j_str lit43fe28) (ja_cons (j_str [35, 97]) (ja_nil))))))))))))))) (few_of (few_cons (few_cons (few_cons (few_cons (few_cons (few_cons (few_cons (few_cons (few_cons (few_cons (few_cons (few_cons (few_cons (few_cons (few_nil)))))))))))))))))) (jb_cons (js_if (jt_cmp (od_eq hr.units) (j_var 2) (j_int)) (jb_one (js_ret (j_op od_add (j_op od_add (j_sl (j_var 1) (jp_no) (jp_so (j_var 3))) (j_var 5)) (j_sl (j_var 1) (jp_so (j_var 3)) (jp_no))))) (jb_nil)) (jb_cons (js_if (jt_cmp (od_eq hr.units) (j_var 2) (j_int)) (jb_one (js_ret (j_op od_add (j_sl (j_var 1) (jp_no) (jp_so (j_var 3))) (j_sl (j_var 1) (jp_so (j_op od_add (j_var 3) (j_int))) (jp_no))))) (jb_nil)) (jb_cons (js_if (jt_cmp (od_eq hr.units) (j_var 2) (j_int)) (jb_one (js_ret (j_op od_add (j_op od_add (j_sl (j_var 1) (jp_no) (jp_so (j_var 3))) (j_var 5)) (j_sl (j_var 1) (jp_so (j_op od_add (j_var 3) (j_int))) (jp_no))))) (jb_nil)) (jb_cons (js_if (jt_cmp (od_eq hr.units) (j_var 2) (j_int)) (jb_one (js_ret (j_op od_add (j_op od_add (j_sl (j_var 1) (jp_no) (jp_so (j_var 3))) (j_sl (j_var 1) (jp_so (j_var 3)) (jp_so (j_op od_add (j_var 3) (j_int))))) (j_sl (j_var 1) (jp_so (j_var 3)) (jp_no))))) (jb_nil)) (jb_one (js_ret (j_op od_add (j_op od_add (j_sl (j_var 1) (jp_no) (jp_so (j_var 3))) (j_ix (j_var 6) (j_call h__law_draw hr (ja_cons (j_var 0) (ja_cons (j_int) (ja_nil)))))) (j_sl (j_var 1) (jp_so (j_op od_sub (j_op od_add (j_var 3) (j_var 2)) (j_int))) (jp_no)))))))))))))
theorem o__law_spoilt (T : Top w K mg) (h__law_draw : Fn P w K mg base 2 "_law_draw" ["bag", "many"] f__law_draw)   : Fn P w K mg base 3 "_law_spoilt" ["bag", "line"] f__law_spoilt := Fn.of T.d__law_spoilt sc__law_spoilt (fun _ _ _ _ _ _ us hl => match us, hl with | [_, _], _ => rfl) (y__law_spoilt T h__law_draw  )
abbrev s_law : Stmt := topS 56
theorem sc_law : FnScope ["script", "bag", "turn", "line", "k", "due", "found", "other", "told"] ["script"] (defScope s_law) := ⟨rfl, rfl, rfl, by decide +kernel, rfl, by decide +kernel, by decide +kernel⟩
theorem y_law (T : Top w K mg) (h__law_alike : Fn P w K mg base 6 "_law_alike" ["found", "due"] f__law_alike) (h__law_bag : Fn P w K mg base 1 "_law_bag" ["script"] f__law_bag) (h__law_declaration : Fn P w K mg base 4 "_law_declaration" ["bag"] f__law_declaration) (h__law_declarations_of : Fn P w K mg base 3 "_law_declarations_of" ["line"] f__law_declarations_of) (h__law_declared : Fn P w K mg base 1 "_law_declared" ["one"] f__law_declared) (h__law_draw : Fn P w K mg base 2 "_law_draw" ["bag", "many"] f__law_draw) (h__law_own_look : Fn P w K mg base 5 "_law_own_look" ["bag", "known"] f__law_own_look) (h__law_spoilt : Fn P w K mg base 3 "_law_spoilt" ["bag", "line"] f__law_spoilt) (h_own_rules : Fn P w K mg base 8 "own_rules" ["text"] f_own_rules) (h_rules_of : Fn P w K mg base 8 "rules_of" ["looks"] f_rules_of) (q_own_rules : FnK P w K mg base 8 "own_rules" ["text"] f_own_rules)  : Body P w K mg base 8 ["script", "bag", "turn", "line", "k", "due", "found", "other", "told"] "law" s_law b_law := fun f cdv A outer s H E hr =>
  have sc := sc_law
  jb_cons (js_set (jg_name 1 sc.nd) (j_call h__law_bag (hr.mono (by decide)) (ja_cons (j_var 0) (ja_nil)))) (jb_cons (js_for PassesOwn.never rfl (ji_rng1 (j_op od_add (j_int) (j_bltB (cb_min2 rfl) T.z_min (by decide +kernel) (ja_cons (j_int) (ja_cons (j_bltB cb_len T.z_len PySem.boot_len (ja_cons (j_var 0) (ja_nil))) (ja_nil))))) T.z_range) (jg_name 2 sc.nd) (jb_cons (js_set (jg_name 3 sc.nd) (j_call h__law_own_look (hr.mono (by decide)) (ja_cons (j_var 1) (ja_cons (j_dict0) (ja_nil))))) (jb_cons (js_if (jt_cmp (od_eq hr.units) (j_call h__law_draw (hr.mono (by decide)) (ja_cons (j_var 1) (ja_cons (j_int) (ja_nil)))) (j_int)) (jb_one (js_set (jg_name 3 sc.nd) (j_mS PySem.F.plainAttrs_str PySem.F.slot_str_join PySem.F.type_str_join ms_join (j_str [59, 32]) (ja_cons (j_comp [("k", 4)] rfl sc.nd (ji_rng1 (j_op od_add (j_int) (j_call h__law_draw (hr.mono (by decide)) (ja_cons (j_var 1) (ja_cons (j_int) (ja_nil))))) T.z_range) (blkOk_by (N := ["script", "bag", "turn", "line", "k", "due", "found", "other", "told"]) (sc := defScope s_law) (by decide +kernel)) (fun _ _ _ _ _ => jg_name 4 sc.nd) (fun _ _ _ _ _ => jc_nil) (fun _ _ _ _ _ => j_call h__law_declared (hr.mono (by decide)) (ja_cons (j_call h__law_declaration (hr.mono (by decide)) (ja_cons (j_var 1) (ja_nil))) (ja_nil))) (by decide)) (ja_nil))))) (jb_nil)) (jb_cons (js_for PassesOwn.never rfl (ji_rng1 (j_ix (j_lst (ja_cons (j_int) (ja_cons (j_int) (ja_cons (j_int) (ja_cons (j_int) (ja_cons (j_int) (ja_cons (j_int) (ja_nil))))))) (few_of (few_cons (few_cons (few_cons (few_cons (few_cons (few_cons (few_nil))))))))) (j_call h__law_draw (hr.mono (by decide)) (ja_cons (j_var 1) (ja_cons (j_int) (ja_nil))))) T.z_range) (jg_name 4 sc.nd) (jb_one (js_set (jg_name 3 sc.nd) (j_call h__law_spoilt (hr.mono (by decide)) (ja_cons (j_var 1) (ja_cons (j_var 3) (ja_nil))))))) (jb_cons (js_set (jg_name 5 sc.nd) (j_call h__law_declarations_of (hr.mono (by decide)) (ja_cons (j_var 3) (ja_nil)))) (jb_cons (js_set (jg_name 6 sc.nd) (j_call h_own_rules hr (ja_cons (j_var 3) (ja_nil)))) (jb_cons (js_set (jg_name 7 sc.nd) (j_callK q_own_rules hr (jk_cons (j_var 3) (jk_nil)))) (jb_cons (js_if (jt_not (jt_val (j_call h__law_alike (hr.mono (by decide)) (ja_cons (j_var 6) (ja_cons (j_if (jt_cmp od_is (j_var 5) (j_non)) (j_lst (ja_nil) (few_of few_nil)) (j_var 5)) (ja_nil)))))) (jb_one (js_ret (j_bl))) (jb_nil)) (jb_cons (js_expr (j_app (j_var 6) (j_tup (ja_cons (j_str [112, 97, 100]) (ja_cons (j_str [49]) (ja_cons (j_bl) (ja_nil)))) (few_of (few_cons (few_cons (few_cons (few_nil)))))))) (jb_cons (js_if (jt_w (jw_or (jt_not (jt_val (j_call h__law_alike (hr.mono (by decide)) (ja_cons (j_var 7) (ja_cons (j_if (jt_cmp od_is (j_var 5) (j_non)) (j_lst (ja_nil) (few_of few_nil)) (j_var 5)) (ja_nil)))))) (jw_or1 (jt_not (jt_val (j_call h__law_alike (hr.mono (by decide)) (ja_cons (j_call h_own_rules hr (ja_cons (j_var 3) (ja_nil))) (ja_cons (j_var 7) (ja_nil))))))))) (jb_one (js_ret (j_bl))) (jb_nil)) (jb_one (js_if (jt_cmp od_notIn (j_str [10]) (j_var 3)) (jb_cons (js_set (jg_name 8 sc.nd) (j_call h_rules_of hr (ja_cons (j_op od_add (j_op od_add (j_str [112, 32, 123, 32]) (j_var 3)) (j_str [32, 125])) (ja_nil)))) (jb_one (js_if (jt_not (jt_val (j_call h__law_alike (hr.mono (by decide)) (ja_cons (j_var 8) (ja_cons (j_lst (ja_cons (j_if (jt_cmp od_is (j_var 5) (j_non)) (j_non) (j_tup (ja_cons (j_lst (ja_cons (j_str [112]) (ja_nil)) (few_of (few_cons (few_nil)))) (ja_cons (j_var 5) (ja_nil))) (few_of (few_cons (few_cons (few_nil)))))) (ja_nil)) (few_of (few_cons (few_nil)))) (ja_nil)))))) (jb_one (js_ret (j_bl))) (jb_nil)))) (jb_nil))))))))))))) (jb_one (js_ret (j_bl))))
theorem o_law (T : Top w K mg) (h__law_alike : Fn P w K mg base 6 "_law_alike" ["found", "due"] f__law_alike) (h__law_bag : Fn P w K mg base 1 "_law_bag" ["script"] f__law_bag) (h__law_declaration : Fn P w K mg base 4 "_law_declaration" ["bag"] f__law_declaration) (h__law_declarations_of : Fn P w K mg base 3 "_law_declarations_of" ["line"] f__law_declarations_of) (h__law_declared : Fn P w K mg base 1 "_law_declared" ["one"] f__law_declared) (h__law_draw : Fn P w K mg base 2 "_law_draw" ["bag", "many"] f__law_draw) (h__law_own_look : Fn P w K mg base 5 "_law_own_look" ["bag", "known"] f__law_own_look) (h__law_spoilt : Fn P w K mg base 3 "_law_spoilt" ["bag", "line"] f__law_spoilt) (h_own_rules : Fn P w K mg base 8 "own_rules" ["text"] f_own_rules) (h_rules_of : Fn P w K mg base 8 "rules_of" ["looks"] f_rules_of) (q_own_rules : FnK P w K mg base 8 "own_rules" ["text"] f_own_rules)  : Fn P w K mg base 9 "law" ["script"] f_law := Fn.of T.d_law sc_law (fun _ _ _ _ _ _ us hl => match us, hl with | [_], _ => rfl) (y_law T h__law_alike h__law_bag h__law_declaration h__law_declarations_of h__law_declared h__law_draw h__law_own_look h__law_spoilt h_own_rules h_rules_of q_own_rules )
end
end Law
end
section
namespace VI
open PySem
/-! ### how a meaning is reckoned: what must hold so that it ends, with Q of its end -/
def W {α : Type} (x : Option (α × Mem)) (Q : α → Mem → Prop) : Prop := ∃ a m', x = some (a, m') ∧ Q a m'
theorem W.mono {α : Type} {x : Option (α × Mem)} {Q Q' : α → Mem → Prop} (h : W x Q) (q : ∀ a m, Q a m → Q' a m) : W x Q' := by
  obtain ⟨a, m', e, h⟩ := h
  exact ⟨a, m', e, q a m' h⟩
theorem W.of {α : Type} {x : Option (α × Mem)} {a : α} {m' : Mem} {Q : α → Mem → Prop} (e : x = some (a, m')) (h : Q a m') : W x Q := ⟨a, m', e, h⟩
section
variable {ρ : Env} {m : Mem} {Q : D → Mem → Prop} {QA : List D → Mem → Prop} {QT : Bool → Mem → Prop} {QB : Fl → Mem → Prop} {QG : Env → Mem → Prop} {a b c e : EF} {r : AF} {t u : TF} {f1 f2 : BF} {g : GF} {gs : GFs} {d x y : D} {ds : List D}
theorem w_var {i : Nat} (h : ρ[i]? = some (some d)) (q : Q d m) : W (eVar i ρ m) Q := ⟨d, m, by unfold eVar; rw [h], q⟩
theorem w_c (q : Q d m) : W (eC d ρ m) Q := ⟨d, m, rfl, q⟩
/-- the operator's own word -/
def opQ (o : Option D) (Q : D → Mem → Prop) (m : Mem) : Prop := ∃ d, o = some d ∧ Q d m
theorem opq (h : Option.some d = o) (q : Q d m) : opQ o Q m := ⟨d, h.symm, q⟩
theorem w_op {p : Mem → D → D → Option D} (h : W (a ρ m) fun x m1 => W (b ρ m1) fun y m2 => opQ (p m2 x y) Q m2) : W (eOp p a b ρ m) Q := by
  obtain ⟨x, m1, e1, y, m2, e2, d, e3, q⟩ := h
  exact ⟨d, m2, by unfold eOp; rw [e1]; dsimp only; rw [e2]; dsimp only; rw [e3], q⟩
theorem w_un {p : Mem → D → Option D} (h : W (a ρ m) fun x m1 => opQ (p m1 x) Q m1) : W (eUn p a ρ m) Q := by
  obtain ⟨x, m1, e1, d, e3, q⟩ := h
  exact ⟨d, m1, by unfold eUn; rw [e1]; dsimp only; rw [e3], q⟩
theorem w_blt {p : Mem → List D → Option D} (h : W (r ρ m) fun x m1 => opQ (p m1 x) Q m1) : W (eBlt p r ρ m) Q := by
  obtain ⟨x, m1, e1, d, e3, q⟩ := h
  exact ⟨d, m1, by unfold eBlt; rw [e1]; dsimp only; rw [e3], q⟩
/-- the end is a truth -/
def blQ (QT : Bool → Mem → Prop) (d : D) (m : Mem) : Prop := ∃ b, d = .bl b ∧ QT b m
theorem blq {v : Bool} (q : QT v m) : blQ QT (.bl v) m := ⟨v, rfl, q⟩
theorem w_not (h : W (a ρ m) (blQ fun v m1 => Q (.bl (!v)) m1)) : W (eNot a ρ m) Q := by
  obtain ⟨x, m1, e1, v, rfl, q⟩ := h
  exact ⟨_, m1, by unfold eNot; rw [e1], q⟩
/-- which way -/
def ifQ (v : Bool) (A B : Prop) : Prop := (v = true → A) ∧ (v = false → B)
theorem ifq_t {A B : Prop} (h : A) : ifQ true A B := ⟨fun _ => h, fun e => (nomatch e)⟩
theorem ifq_f {A B : Prop} (h : B) : ifQ false A B := ⟨fun e => (nomatch e), fun _ => h⟩
theorem ifq_d {p : Prop} [Decidable p] {A B : Prop} (h1 : p → A) (h2 : ¬ p → B) : ifQ (decide p) A B := ⟨fun e => h1 (of_decide_eq_true e), fun e => h2 (of_decide_eq_false e)⟩
theorem ifq_nd {p : Prop} [Decidable p] {A B : Prop} (h1 : ¬ p → A) (h2 : p → B) : ifQ (!decide p) A B := by
  by_cases h : p
  · rw [decide_eq_true h]; exact ifq_f (h2 h)
  · rw [decide_eq_false h]; exact ifq_t (h1 h)
theorem ifq_n {v : Bool} {A B : Prop} (h : ifQ v B A) : ifQ (!v) A B := by
  cases v
  · exact ifq_t (h.2 rfl)
  · exact ifq_f (h.1 rfl)
theorem w_and (h : W (a ρ m) (blQ fun v m1 => ifQ v (W (b ρ m1) Q) (Q (.bl false) m1))) : W (eAnd a b ρ m) Q := by
  obtain ⟨x, m1, e1, v, rfl, q1, q2⟩ := h
  cases v
  · exact ⟨_, m1, by unfold eAnd; rw [e1], q2 rfl⟩
  · obtain ⟨y, m2, e2, q⟩ := q1 rfl
    exact ⟨y, m2, by unfold eAnd; rw [e1]; exact e2, q⟩
theorem w_or (h : W (a ρ m) (blQ fun v m1 => ifQ v (Q (.bl true) m1) (W (b ρ m1) Q))) : W (eOr a b ρ m) Q := by
  obtain ⟨x, m1, e1, v, rfl, q1, q2⟩ := h
  cases v
  · obtain ⟨y, m2, e2, q⟩ := q2 rfl
    exact ⟨y, m2, by unfold eOr; rw [e1]; exact e2, q⟩
  · exact ⟨_, m1, by unfold eOr; rw [e1], q1 rfl⟩
theorem w_if (h : W (t ρ m) fun v m1 => ifQ v (W (a ρ m1) Q) (W (b ρ m1) Q)) : W (eIf t a b ρ m) Q := by
  obtain ⟨v, m1, e1, q1, q2⟩ := h
  cases v
  · obtain ⟨y, m2, e2, q⟩ := q2 rfl
    exact ⟨y, m2, by unfold eIf; rw [e1]; exact e2, q⟩
  · obtain ⟨y, m2, e2, q⟩ := q1 rfl
    exact ⟨y, m2, by unfold eIf; rw [e1]; exact e2, q⟩
theorem w_chain {p p' : Mem → D → D → Option D} (h : W (a ρ m) fun x m1 => W (b ρ m1) fun y m2 => opQ (p m2 x y) (blQ fun v m2 => ifQ v (W (c ρ m2) fun z m3 => opQ (p' m3 y z) Q m3) (Q (.bl false) m2)) m2) : W (eChain p p' a b c ρ m) Q := by
  obtain ⟨x, m1, e1, y, m2, e2, d, e3, v, rfl, q1, q2⟩ := h
  cases v
  · exact ⟨_, m2, by unfold eChain; rw [e1]; dsimp only; rw [e2]; dsimp only; rw [e3], q2 rfl⟩
  · obtain ⟨z, m3, e4, d', e5, q⟩ := q1 rfl
    exact ⟨d', m3, by unfold eChain; rw [e1]; dsimp only; rw [e2]; dsimp only; rw [e3]; dsimp only; rw [e4]; dsimp only; rw [e5], q⟩
theorem w_anil (q : QA [] m) : W (aNil ρ m) QA := ⟨[], m, rfl, q⟩
theorem w_acons (h : W (a ρ m) fun x m1 => W (r ρ m1) fun xs m2 => QA (x :: xs) m2) : W (aCons a r ρ m) QA := by
  obtain ⟨x, m1, e1, xs, m2, e2, q⟩ := h
  exact ⟨_, m2, by unfold aCons; rw [e1]; dsimp only; rw [e2], q⟩
theorem w_tup (h : W (r ρ m) fun xs m1 => Q (.tup xs) m1) : W (eTup r ρ m) Q := by
  obtain ⟨x, m1, e1, q⟩ := h
  exact ⟨_, m1, by unfold eTup; rw [e1], q⟩
theorem w_lst (h : W (r ρ m) fun xs m1 => Q (.lst xs) m1) : W (eLst r ρ m) Q := by
  obtain ⟨x, m1, e1, q⟩ := h
  exact ⟨_, m1, by unfold eLst; rw [e1], q⟩
theorem w_cel (h : W (r ρ m) fun xs m1 => Q (.cell m1.length) (m1 ++ [.lst xs])) : W (eCel r ρ m) Q := by
  obtain ⟨x, m1, e1, q⟩ := h
  exact ⟨_, _, by unfold eCel; rw [e1], q⟩
theorem w_frz (h : W (a ρ m) fun x m1 => ∃ i ds, x = .cell i ∧ m1[i]? = some (.lst ds) ∧ Q (.lst ds) (m1.set i .dead)) : W (eFrz a ρ m) Q := by
  obtain ⟨x, m1, e1, i, ds, rfl, e2, q⟩ := h
  exact ⟨_, _, by unfold eFrz; rw [e1]; dsimp only; rw [e2], q⟩
theorem w_call {f : FD} (h : W (r ρ m) fun xs m1 => W (f xs m1) Q) : W (eCall f r ρ m) Q := by
  obtain ⟨x, m1, e1, y, m2, e2, q⟩ := h
  exact ⟨y, m2, by unfold eCall; rw [e1]; exact e2, q⟩
theorem w_tv (h : W (a ρ m) (blQ QT)) : W (tV a ρ m) QT := by
  obtain ⟨x, m1, e1, v, rfl, q⟩ := h
  exact ⟨v, m1, by unfold tV; rw [e1], q⟩
theorem w_tnot (h : W (t ρ m) fun v m1 => QT (!v) m1) : W (tNot t ρ m) QT := by
  obtain ⟨v, m1, e1, q⟩ := h
  exact ⟨_, m1, by unfold tNot; rw [e1], q⟩
theorem w_tand (h : W (t ρ m) fun v m1 => ifQ v (W (u ρ m1) QT) (QT false m1)) : W (tAnd t u ρ m) QT := by
  obtain ⟨v, m1, e1, q1, q2⟩ := h
  cases v
  · exact ⟨_, m1, by unfold tAnd; rw [e1], q2 rfl⟩
  · obtain ⟨y, m2, e2, q⟩ := q1 rfl
    exact ⟨y, m2, by unfold tAnd; rw [e1]; exact e2, q⟩
theorem w_tor (h : W (t ρ m) fun v m1 => ifQ v (QT true m1) (W (u ρ m1) QT)) : W (tOr t u ρ m) QT := by
  obtain ⟨v, m1, e1, q1, q2⟩ := h
  cases v
  · obtain ⟨y, m2, e2, q⟩ := q2 rfl
    exact ⟨y, m2, by unfold tOr; rw [e1]; exact e2, q⟩
  · exact ⟨_, m1, by unfold tOr; rw [e1], q1 rfl⟩
theorem w_bits (h : W (a ρ m) fun x m1 => ∃ i, x = .int i ∧ Q (.int (Builtin.Int.intBits i : Nat)) m1) : W (eBits a ρ m) Q := by
  obtain ⟨x, m1, e1, i, rfl, q⟩ := h
  exact ⟨_, m1, by unfold eBits; rw [e1], q⟩
theorem w_mS {p : List Nat → Mem → List D → Option D} (h : W (a ρ m) fun x m1 => ∃ s, x = .str s ∧ W (r ρ m1) fun xs m2 => opQ (p s m2 xs) Q m2) : W (eMS p a r ρ m) Q := by
  obtain ⟨x, m1, e1, s, rfl, y, m2, e2, d, e3, q⟩ := h
  exact ⟨d, m2, by unfold eMS; rw [e1]; dsimp only; rw [e2]; dsimp only; rw [e3], q⟩
theorem w_app (h : W (a ρ m) fun x m1 => ∃ i ds0, x = .cell i ∧ m1[i]? = some (.lst ds0) ∧ W (e ρ m1) fun d m2 => ∃ ds, m2[i]? = some (.lst ds) ∧ ds.length < 16777216 ∧ Q .non (m2.set i (.lst (ds ++ [d])))) : W (eApp a e ρ m) Q := by
  obtain ⟨x, m1, e1, i, ds0, rfl, e2, d, m2, e3, ds, e4, hl, q⟩ := h
  exact ⟨_, _, by unfold eApp; rw [e1]; dsimp only; rw [e2]; dsimp only; rw [e3]; dsimp only; rw [e4]; dsimp only; rw [if_pos hl], q⟩
/-! slices -/
theorem w_pno {QP : Option Int → Mem → Prop} (q : QP none m) : W (pNo ρ m) QP := ⟨_, m, rfl, q⟩
theorem w_pso {QP : Option Int → Mem → Prop} (h : W (a ρ m) fun x m1 => ∃ i, x = .int i ∧ QP (some i) m1) : W (pSo a ρ m) QP := by
  obtain ⟨x, m1, e1, i, rfl, q⟩ := h
  exact ⟨_, m1, by unfold pSo; rw [e1], q⟩
theorem w_sl {p1 p2 : PFn} (h : W (a ρ m) fun x m1 => W (p1 ρ m1) fun lo m2 => W (p2 ρ m2) fun hi m3 => opQ (slD m3 x lo hi) Q m3) : W (eSl a p1 p2 ρ m) Q := by
  obtain ⟨x, m1, e1, lo, m2, e2, hi, m3, e3, d, e4, q⟩ := h
  exact ⟨d, m3, by unfold eSl; rw [e1]; dsimp only; rw [e2]; dsimp only; rw [e3]; dsimp only; rw [e4], q⟩
/-! blocks -/
def seqQ (b : BF) (QB : Fl → Mem → Prop) : Fl → Mem → Prop
  | .nx ρ, m => W (b ρ m) QB
  | r, m => QB r m
theorem w_bnil (q : QB (.nx ρ) m) : W (bNil ρ m) QB := ⟨_, m, rfl, q⟩
theorem w_seq (h : W (f1 ρ m) (seqQ f2 QB)) : W (bSeq f1 f2 ρ m) QB := by
  obtain ⟨x, m1, e1, q⟩ := h
  cases x with
  | nx ρ1 =>
    obtain ⟨y, m2, e2, q⟩ := q
    exact ⟨y, m2, by unfold bSeq; rw [e1]; exact e2, q⟩
  | rt d => exact ⟨_, m1, by unfold bSeq; rw [e1], q⟩
  | bk d => exact ⟨_, m1, by unfold bSeq; rw [e1], q⟩
  | ct d => exact ⟨_, m1, by unfold bSeq; rw [e1], q⟩
theorem seq_nx {ρ1 : Env} (h : W (f2 ρ1 m) QB) : seqQ f2 QB (.nx ρ1) m := h
theorem seq_rt (h : QB (.rt d) m) : seqQ f2 QB (.rt d) m := h
theorem seq_bk {ρ1 : Env} (h : QB (.bk ρ1) m) : seqQ f2 QB (.bk ρ1) m := h
theorem seq_ct {ρ1 : Env} (h : QB (.ct ρ1) m) : seqQ f2 QB (.ct ρ1) m := h
theorem w_drop (h : W (e ρ m) fun _ m1 => QB (.nx ρ) m1) : W (bDrop e ρ m) QB := by
  obtain ⟨x, m1, e1, q⟩ := h
  exact ⟨_, m1, by unfold bDrop; rw [e1], q⟩
theorem w_ret (h : W (e ρ m) fun d m1 => QB (.rt d) m1) : W (bRet e ρ m) QB := by
  obtain ⟨x, m1, e1, q⟩ := h
  exact ⟨_, m1, by unfold bRet; rw [e1], q⟩
theorem w_retN (q : QB (.rt .non) m) : W (bRetN ρ m) QB := ⟨_, m, rfl, q⟩
theorem w_bk (q : QB (.bk ρ) m) : W (bBk ρ m) QB := ⟨_, m, rfl, q⟩
theorem w_ct (q : QB (.ct ρ) m) : W (bCt ρ m) QB := ⟨_, m, rfl, q⟩
theorem w_bif (h : W (t ρ m) fun v m1 => ifQ v (W (f1 ρ m1) QB) (W (f2 ρ m1) QB)) : W (bIf t f1 f2 ρ m) QB := by
  obtain ⟨v, m1, e1, q1, q2⟩ := h
  cases v
  · obtain ⟨y, m2, e2, q⟩ := q2 rfl
    exact ⟨y, m2, by unfold bIf; rw [e1]; exact e2, q⟩
  · obtain ⟨y, m2, e2, q⟩ := q1 rfl
    exact ⟨y, m2, by unfold bIf; rw [e1]; exact e2, q⟩
theorem w_set (h : W (e ρ m) fun d m1 => W (g d ρ m1) fun ρ1 m2 => QB (.nx ρ1) m2) : W (bSet g e ρ m) QB := by
  obtain ⟨x, m1, e1, ρ1, m2, e2, q⟩ := h
  exact ⟨_, m2, by unfold bSet; rw [e1]; dsimp only; rw [e2], q⟩
theorem w_aug {i : Nat} {p : Mem → D → D → Option D} (hx : ρ[i]? = some (some x)) (h : W (e ρ m) fun y m1 => opQ (p m1 x y) (fun d m1 => QB (.nx (ρ.set i (some d))) m1) m1) : W (bAug i p e ρ m) QB := by
  obtain ⟨y, m1, e1, d, e2, q⟩ := h
  exact ⟨_, m1, by unfold bAug; rw [hx]; dsimp only; rw [e1]; dsimp only; rw [e2], q⟩
/-! targets -/
theorem w_name {i : Nat} (q : QG (ρ.set i (some d)) m) : W (gName i d ρ m) QG := ⟨_, m, rfl, q⟩
theorem w_name0 {x0 : Option D} {l : Env} (q : QG (some d :: l) m) : W (gName 0 d (x0 :: l) m) QG := ⟨_, m, rfl, q⟩
theorem w_name1 {x0 x1 : Option D} {l : Env} (q : QG (x0 :: some d :: l) m) : W (gName 1 d (x0 :: x1 :: l) m) QG := ⟨_, m, rfl, q⟩
theorem w_name2 {x0 x1 x2 : Option D} {l : Env} (q : QG (x0 :: x1 :: some d :: l) m) : W (gName 2 d (x0 :: x1 :: x2 :: l) m) QG := ⟨_, m, rfl, q⟩
theorem w_name3 {x0 x1 x2 x3 : Option D} {l : Env} (q : QG (x0 :: x1 :: x2 :: some d :: l) m) : W (gName 3 d (x0 :: x1 :: x2 :: x3 :: l) m) QG := ⟨_, m, rfl, q⟩
theorem w_name4 {x0 x1 x2 x3 x4 : Option D} {l : Env} (q : QG (x0 :: x1 :: x2 :: x3 :: some d :: l) m) : W (gName 4 d (x0 :: x1 :: x2 :: x3 :: x4 :: l) m) QG := ⟨_, m, rfl, q⟩
theorem w_name5 {x0 x1 x2 x3 x4 x5 : Option D} {l : Env} (q : QG (x0 :: x1 :: x2 :: x3 :: x4 :: some d :: l) m) : W (gName 5 d (x0 :: x1 :: x2 :: x3 :: x4 :: x5 :: l) m) QG := ⟨_, m, rfl, q⟩
theorem w_name6 {x0 x1 x2 x3 x4 x5 x6 : Option D} {l : Env} (q : QG (x0 :: x1 :: x2 :: x3 :: x4 :: x5 :: some d :: l) m) : W (gName 6 d (x0 :: x1 :: x2 :: x3 :: x4 :: x5 :: x6 :: l) m) QG := ⟨_, m, rfl, q⟩
theorem w_name7 {x0 x1 x2 x3 x4 x5 x6 x7 : Option D} {l : Env} (q : QG (x0 :: x1 :: x2 :: x3 :: x4 :: x5 :: x6 :: some d :: l) m) : W (gName 7 d (x0 :: x1 :: x2 :: x3 :: x4 :: x5 :: x6 :: x7 :: l) m) QG := ⟨_, m, rfl, q⟩
theorem w_name8 {x0 x1 x2 x3 x4 x5 x6 x7 x8 : Option D} {l : Env} (q : QG (x0 :: x1 :: x2 :: x3 :: x4 :: x5 :: x6 :: x7 :: some d :: l) m) : W (gName 8 d (x0 :: x1 :: x2 :: x3 :: x4 :: x5 :: x6 :: x7 :: x8 :: l) m) QG := ⟨_, m, rfl, q⟩
theorem w_name9 {x0 x1 x2 x3 x4 x5 x6 x7 x8 x9 : Option D} {l : Env} (q : QG (x0 :: x1 :: x2 :: x3 :: x4 :: x5 :: x6 :: x7 :: x8 :: some d :: l) m) : W (gName 9 d (x0 :: x1 :: x2 :: x3 :: x4 :: x5 :: x6 :: x7 :: x8 :: x9 :: l) m) QG := ⟨_, m, rfl, q⟩
theorem w_name10 {x0 x1 x2 x3 x4 x5 x6 x7 x8 x9 x10 : Option D} {l : Env} (q : QG (x0 :: x1 :: x2 :: x3 :: x4 :: x5 :: x6 :: x7 :: x8 :: x9 :: some d :: l) m) : W (gName 10 d (x0 :: x1 :: x2 :: x3 :: x4 :: x5 :: x6 :: x7 :: x8 :: x9 :: x10 :: l) m) QG := ⟨_, m, rfl, q⟩
theorem w_name11 {x0 x1 x2 x3 x4 x5 x6 x7 x8 x9 x10 x11 : Option D} {l : Env} (q : QG (x0 :: x1 :: x2 :: x3 :: x4 :: x5 :: x6 :: x7 :: x8 :: x9 :: x10 :: some d :: l) m) : W (gName 11 d (x0 :: x1 :: x2 :: x3 :: x4 :: x5 :: x6 :: x7 :: x8 :: x9 :: x10 :: x11 :: l) m) QG := ⟨_, m, rfl, q⟩
theorem w_name12 {x0 x1 x2 x3 x4 x5 x6 x7 x8 x9 x10 x11 x12 : Option D} {l : Env} (q : QG (x0 :: x1 :: x2 :: x3 :: x4 :: x5 :: x6 :: x7 :: x8 :: x9 :: x10 :: x11 :: some d :: l) m) : W (gName 12 d (x0 :: x1 :: x2 :: x3 :: x4 :: x5 :: x6 :: x7 :: x8 :: x9 :: x10 :: x11 :: x12 :: l) m) QG := ⟨_, m, rfl, q⟩
theorem w_name13 {x0 x1 x2 x3 x4 x5 x6 x7 x8 x9 x10 x11 x12 x13 : Option D} {l : Env} (q : QG (x0 :: x1 :: x2 :: x3 :: x4 :: x5 :: x6 :: x7 :: x8 :: x9 :: x10 :: x11 :: x12 :: some d :: l) m) : W (gName 13 d (x0 :: x1 :: x2 :: x3 :: x4 :: x5 :: x6 :: x7 :: x8 :: x9 :: x10 :: x11 :: x12 :: x13 :: l) m) QG := ⟨_, m, rfl, q⟩
theorem w_name14 {x0 x1 x2 x3 x4 x5 x6 x7 x8 x9 x10 x11 x12 x13 x14 : Option D} {l : Env} (q : QG (x0 :: x1 :: x2 :: x3 :: x4 :: x5 :: x6 :: x7 :: x8 :: x9 :: x10 :: x11 :: x12 :: x13 :: some d :: l) m) : W (gName 14 d (x0 :: x1 :: x2 :: x3 :: x4 :: x5 :: x6 :: x7 :: x8 :: x9 :: x10 :: x11 :: x12 :: x13 :: x14 :: l) m) QG := ⟨_, m, rfl, q⟩
theorem w_name15 {x0 x1 x2 x3 x4 x5 x6 x7 x8 x9 x10 x11 x12 x13 x14 x15 : Option D} {l : Env} (q : QG (x0 :: x1 :: x2 :: x3 :: x4 :: x5 :: x6 :: x7 :: x8 :: x9 :: x10 :: x11 :: x12 :: x13 :: x14 :: some d :: l) m) : W (gName 15 d (x0 :: x1 :: x2 :: x3 :: x4 :: x5 :: x6 :: x7 :: x8 :: x9 :: x10 :: x11 :: x12 :: x13 :: x14 :: x15 :: l) m) QG := ⟨_, m, rfl, q⟩
theorem w_gnil (q : QG ρ m) : W (gNil [] ρ m) QG := ⟨_, m, rfl, q⟩
theorem w_gcons (h : W (g d ρ m) fun ρ1 m1 => W (gs ds ρ1 m1) QG) : W (gCons g gs (d :: ds) ρ m) QG := by
  obtain ⟨ρ1, m1, e1, ρ2, m2, e2, q⟩ := h
  exact ⟨_, m2, by unfold gCons; dsimp only; rw [e1]; exact e2, q⟩
theorem w_gtup {n : Nat} (hl : ds.length = n) (h : W (gs ds ρ m) QG) : W (gTup n gs (.tup ds) ρ m) QG := by
  obtain ⟨ρ1, m1, e1, q⟩ := h
  exact ⟨_, m1, by unfold gTup; dsimp only; rw [if_pos hl]; exact e1, q⟩
theorem w_gix (h : W (a ρ m) fun x m1 => ∃ k, x = .cell k ∧ W (b ρ m1) fun y m2 => ∃ i ds j, y = .int i ∧ m2[k]? = some (.lst ds) ∧ L2.ixN ds.length i = some j ∧ QG ρ (m2.set k (.lst (ds.set j d)))) : W (gIx a b d ρ m) QG := by
  obtain ⟨x, m1, e1, k, rfl, y, m2, e2, i, ds, j, rfl, e3, e4, q⟩ := h
  exact ⟨_, _, by unfold gIx; rw [e1]; dsimp only; rw [e2]; dsimp only; rw [e3]; dsimp only; rw [e4], q⟩
/-! loops -/
def turnQ (I : Env → Mem → Prop) (QB : Fl → Mem → Prop) : Fl → Mem → Prop
  | .nx ρ, m => I ρ m
  | .ct ρ, m => I ρ m
  | .bk ρ, m => QB (.nx ρ) m
  | .rt d, m => QB (.rt d) m
theorem turn_nx {I : Env → Mem → Prop} (h : I ρ m) : turnQ I QB (.nx ρ) m := h
theorem turn_ct {I : Env → Mem → Prop} (h : I ρ m) : turnQ I QB (.ct ρ) m := h
theorem turn_bk {I : Env → Mem → Prop} (h : QB (.nx ρ) m) : turnQ I QB (.bk ρ) m := h
theorem turn_rt {I : Env → Mem → Prop} (h : QB (.rt d) m) : turnQ I QB (.rt d) m := h
theorem w_forV (I : Nat → Env → Mem → Prop) : ∀ (ds : List D) (k : Nat) (ρ : Env) (m : Mem), I k ρ m →
    (∀ i d ρ m, ds[i]? = some d → I (k + i) ρ m → W (g d ρ m) fun ρ1 m1 => W (f1 ρ1 m1) (turnQ (I (k + i + 1)) QB)) → (∀ ρ m, I (k + ds.length) ρ m → QB (.nx ρ) m) → W (forV g f1 ds ρ m) QB
  | [], k, ρ, m, h0, _, hd => ⟨_, m, rfl, hd ρ m h0⟩
  | d :: ds, k, ρ, m, h0, hs, hd => by
    obtain ⟨ρ1, m1, e1, x, m2, e2, q⟩ := hs 0 d ρ m rfl h0
    have next : ∀ ρ2, I (k + 1) ρ2 m2 → W (forV g f1 ds ρ2 m2) QB := fun ρ2 h2 => w_forV I ds (k + 1) ρ2 m2 h2 (fun i d ρ m hi hI => by
      have e : k + 1 + i = k + (i + 1) := by omega
      rw [e] at hI ⊢
      exact hs (i + 1) d ρ m (by simpa using hi) hI) fun ρ m hI => hd ρ m (by
        have e : k + (d :: ds).length = k + 1 + ds.length := by simp; omega
        rw [e]; exact hI)
    cases x with
    | nx ρ2 =>
      obtain ⟨y, m3, e3, q⟩ := next ρ2 q
      exact ⟨y, m3, by unfold forV; rw [e1]; dsimp only; rw [e2]; exact e3, q⟩
    | ct ρ2 =>
      obtain ⟨y, m3, e3, q⟩ := next ρ2 q
      exact ⟨y, m3, by unfold forV; rw [e1]; dsimp only; rw [e2]; exact e3, q⟩
    | bk ρ2 => exact ⟨_, m2, by unfold forV; rw [e1]; dsimp only; rw [e2], q⟩
    | rt d => exact ⟨_, m2, by unfold forV; rw [e1]; dsimp only; rw [e2], q⟩
/-- a for, by what holds between two turns -/
theorem w_for (I : Nat → Env → Mem → Prop) (h : W (r ρ m) fun ds m1 => I 0 ρ m1 ∧ (∀ i d ρ m, ds[i]? = some d → I i ρ m → W (g d ρ m) fun ρ1 m1 => W (f1 ρ1 m1) (turnQ (I (i + 1)) QB)) ∧ ∀ ρ m, I ds.length ρ m → QB (.nx ρ) m) : W (bFor r g f1 ρ m) QB := by
  obtain ⟨ds, m1, e1, h0, hs, hd⟩ := h
  obtain ⟨y, m2, e2, q⟩ := w_forV (g := g) (f1 := f1) (QB := QB) I ds 0 ρ m1 h0 (fun i d ρ m hi hI => by rw [Nat.zero_add] at hI ⊢; exact hs i d ρ m hi hI) (fun ρ m hI => hd ρ m (by rw [Nat.zero_add] at hI; exact hI))
  exact ⟨y, m2, by unfold bFor; rw [e1]; exact e2, q⟩
theorem w_while (I : Env → Mem → Prop) (μ : Env → Mem → Nat) : ∀ (n : Nat) (ρ : Env) (m : Mem), I ρ m → μ ρ m < n →
    (∀ ρ m, I ρ m → W (t ρ m) fun v m1 => ifQ v (W (f1 ρ m1) (turnQ (fun ρ2 m2 => I ρ2 m2 ∧ μ ρ2 m2 < μ ρ m) QB)) (QB (.nx ρ) m1)) → W (whileV t f1 n ρ m) QB
  | 0, ρ, m, _, hn, _ => absurd hn (Nat.not_lt_zero _)
  | n + 1, ρ, m, h0, hn, hs => by
    obtain ⟨v, m1, e1, q1, q2⟩ := hs ρ m h0
    cases v with
    | false => exact ⟨_, m1, by unfold whileV; rw [e1], q2 rfl⟩
    | true =>
      obtain ⟨x, m2, e2, q⟩ := q1 rfl
      cases x with
      | nx ρ2 =>
        obtain ⟨y, m3, e3, q⟩ := w_while I μ n ρ2 m2 q.1 (by have := q.2; omega) hs
        exact ⟨y, m3, by unfold whileV; rw [e1]; dsimp only; rw [e2]; exact e3, q⟩
      | ct ρ2 =>
        obtain ⟨y, m3, e3, q⟩ := w_while I μ n ρ2 m2 q.1 (by have := q.2; omega) hs
        exact ⟨y, m3, by unfold whileV; rw [e1]; dsimp only; rw [e2]; exact e3, q⟩
      | bk ρ2 => exact ⟨_, m2, by unfold whileV; rw [e1]; dsimp only; rw [e2], q⟩
      | rt d => exact ⟨_, m2, by unfold whileV; rw [e1]; dsimp only; rw [e2], q⟩
theorem w_compV {own : List Nat} (I : Nat → List D → Mem → Prop) {QA : List D → Mem → Prop} : ∀ (ds : List D) (k : Nat) (acc : List D) (m : Mem), I k acc m →
    (∀ i d acc m, ds[i]? = some d → I (k + i) acc m → W (g d (wipeD ρ own) m) fun ρ1 m1 => W (t ρ1 m1) fun v m2 => ifQ v (W (e ρ1 m2) fun y m3 => I (k + i + 1) (acc ++ [y]) m3) (I (k + i + 1) acc m2)) →
    (∀ acc m, I (k + ds.length) acc m → QA acc m) → W (compV own g t e ρ ds acc m) QA
  | [], k, acc, m, h0, _, hd => ⟨_, m, rfl, hd acc m h0⟩
  | d :: ds, k, acc, m, h0, hs, hd => by
    obtain ⟨ρ1, m1, e1, v, m2, e2, q1, q2⟩ := hs 0 d acc m rfl h0
    have next : ∀ acc m, I (k + 1) acc m → W (compV own g t e ρ ds acc m) QA := fun acc m h2 => w_compV I ds (k + 1) acc m h2 (fun i d acc m hi hI => by
      have e : k + 1 + i = k + (i + 1) := by omega
      rw [e] at hI ⊢
      exact hs (i + 1) d acc m (by simpa using hi) hI) fun acc m hI => hd acc m (by
        have e : k + (d :: ds).length = k + 1 + ds.length := by simp; omega
        rw [e]; exact hI)
    cases v with
    | false =>
      obtain ⟨y, m3, e3, q⟩ := next acc m2 (q2 rfl)
      exact ⟨y, m3, by unfold compV; rw [e1]; dsimp only; rw [e2]; exact e3, q⟩
    | true =>
      obtain ⟨y, m3, e3, q3⟩ := q1 rfl
      obtain ⟨z, m4, e4, q⟩ := next (acc ++ [y]) m3 q3
      exact ⟨z, m4, by unfold compV; rw [e1]; dsimp only; rw [e2]; dsimp only; rw [e3]; exact e4, q⟩
/-- a comprehension, by what holds of what is made so far -/
theorem w_comp {own : List Nat} (I : Nat → List D → Mem → Prop) (h : W (r ρ m) fun ds m1 => ds.length ≤ 16777215 ∧ I 0 [] m1 ∧
    (∀ i d acc m, ds[i]? = some d → I i acc m → W (g d (wipeD ρ own) m) fun ρ1 m1 => W (t ρ1 m1) fun v m2 => ifQ v (W (e ρ1 m2) fun y m3 => I (i + 1) (acc ++ [y]) m3) (I (i + 1) acc m2)) ∧ ∀ acc m, I ds.length acc m → Q (.lst acc) m) : W (eComp own r g t e ρ m) Q := by
  obtain ⟨ds, m1, e1, hl, h0, hs, hd⟩ := h
  obtain ⟨y, m2, e2, q⟩ := w_compV (ρ := ρ) (own := own) (g := g) (t := t) (e := e) (QA := fun acc m => Q (.lst acc) m) I ds 0 [] m1 h0 (fun i d acc m hi hI => by rw [Nat.zero_add] at hI ⊢; exact hs i d acc m hi hI) (fun acc m hI => hd acc m (by rw [Nat.zero_add] at hI; exact hI))
  exact ⟨_, m2, by unfold eComp eLst aComp; rw [e1]; dsimp only; rw [if_pos hl, e2], q⟩
theorem w_yes (q : QT true m) : W (tYes ρ m) QT := ⟨_, m, rfl, q⟩
/-! what is walked -/
def itQ (QA : List D → Mem → Prop) : D → Mem → Prop
  | .tup ds, m => QA ds m
  | .lst ds, m => QA ds m
  | .lsk ds, m => QA ds m
  | .str s, m => QA (s.map fun c => .str [c]) m
  | _, _ => False
theorem w_it (h : W (a ρ m) (itQ QA)) : W (aIt a ρ m) QA := by
  obtain ⟨x, m1, e1, q⟩ := h
  cases x with
  | tup ds => exact ⟨_, m1, by unfold aIt; rw [e1], q⟩
  | lst ds => exact ⟨_, m1, by unfold aIt; rw [e1], q⟩
  | lsk ds => exact ⟨_, m1, by unfold aIt; rw [e1], q⟩
  | str s => exact ⟨_, m1, by unfold aIt; rw [e1], q⟩
  | non => exact q.elim
  | bl b => exact q.elim
  | int i => exact q.elim
  | cell i => exact q.elim
  | ty i => exact q.elim
theorem w_rng1 (h : W (a ρ m) fun x m1 => ∃ i, x = .int i ∧ (-4611686018427387904 ≤ i ∧ i < 4611686018427387904) ∧ QA (rngD 0 i.toNat) m1) : W (aRng1 a ρ m) QA := by
  obtain ⟨x, m1, e1, i, rfl, hb, q⟩ := h
  refine ⟨_, m1, ?_, q⟩
  unfold aRng1; rw [e1]; dsimp only
  rw [if_pos]
  unfold big62
  rw [Bool.and_eq_true]
  exact ⟨decide_eq_true hb.1, decide_eq_true hb.2⟩
theorem w_rng2 (h : W (a ρ m) fun x m1 => ∃ i, x = .int i ∧ (-4611686018427387904 ≤ i ∧ i < 4611686018427387904) ∧ W (b ρ m1) fun y m2 => ∃ j, y = .int j ∧ (-4611686018427387904 ≤ j ∧ j < 4611686018427387904) ∧ QA (rngD i (j - i).toNat) m2) : W (aRng2 a b ρ m) QA := by
  obtain ⟨x, m1, e1, i, rfl, hb, y, m2, e2, j, rfl, hc, q⟩ := h
  refine ⟨_, m2, ?_, q⟩
  unfold aRng2; rw [e1]; dsimp only; rw [e2]; dsimp only
  rw [if_pos]
  unfold big62
  rw [Bool.and_eq_true, Bool.and_eq_true, Bool.and_eq_true]
  exact ⟨⟨decide_eq_true hb.1, decide_eq_true hb.2⟩, decide_eq_true hc.1, decide_eq_true hc.2⟩
/-! dicts -/
def QD' := List (L2.Key × D) → Mem → Prop
theorem w_dict0 (q : Q (.cell m.length) (m ++ [.dct []])) : W (eDict0 ρ m) Q := ⟨_, _, rfl, q⟩
theorem w_get2 (h : W (a ρ m) fun x m1 => ∃ k kv0, x = .cell k ∧ m1[k]? = some (.dct kv0) ∧ W (b ρ m1) fun y m2 => ∃ key, toKey y = some key ∧ W (c ρ m2) fun z m3 => ∃ kvs, m3[k]? = some (.dct kvs) ∧ Q ((valD kvs key).getD z) m3) : W (eGet2 a b c ρ m) Q := by
  obtain ⟨x, m1, e1, k, kv0, rfl, e2, y, m2, e3, key, e4, z, m3, e5, kvs, e6, q⟩ := h
  exact ⟨_, m3, by unfold eGet2; rw [e1]; dsimp only; rw [e2]; dsimp only; rw [e3]; dsimp only; rw [e4]; dsimp only; rw [e5]; dsimp only; rw [e6], q⟩
/-! defs -/
def retQ (Q : D → Mem → Prop) : Fl → Mem → Prop
  | .rt d, m => Q d m
  | .nx _, m => Q .non m
  | _, _ => False
theorem ret_rt (h : Q d m) : retQ Q (.rt d) m := h
theorem ret_nx (h : Q .non m) : retQ Q (.nx ρ) m := h
theorem w_fn {np n : Nat} (hl : ds.length = np) (he : ds.map some ++ List.replicate (n - ds.length) none = ρ) (h : W (f1 ρ m) (retQ Q)) : W (fnD np n f1 ds m) Q := by
  subst he
  obtain ⟨x, m1, e1, q⟩ := h
  cases x with
  | rt d => exact ⟨_, m1, by unfold fnD; rw [if_pos hl, e1], q⟩
  | nx ρ1 => exact ⟨_, m1, by unfold fnD; rw [if_pos hl, e1], q⟩
  | bk ρ1 => exact q.elim
  | ct ρ1 => exact q.elim
/-! operators -/
theorem q_add {i j : Int} (q : Q (.int (i + j)) m) : opQ (oAdd m (.int i) (.int j)) Q m := ⟨_, rfl, q⟩
theorem q_addS {s t : List Nat} (h : s.length + t.length ≤ 16777216) (q : Q (.str (s ++ t)) m) : opQ (oAdd m (.str s) (.str t)) Q m := ⟨_, by unfold oAdd; dsimp only; rw [if_pos h], q⟩
theorem q_addL {s t : List D} (h : s.length + t.length ≤ 16777216) (q : Q (.lst (s ++ t)) m) : opQ (oAdd m (.lst s) (.lst t)) Q m := ⟨_, by unfold oAdd; dsimp only; rw [if_pos h], q⟩
theorem q_addT {s t : List D} (h : s.length + t.length ≤ 16777216) (q : Q (.tup (s ++ t)) m) : opQ (oAdd m (.tup s) (.tup t)) Q m := ⟨_, by unfold oAdd; dsimp only; rw [if_pos h], q⟩
theorem q_iadd {i j : Int} (q : Q (.int (i + j)) m) : opQ (ioAdd m (.int i) (.int j)) Q m := ⟨_, rfl, q⟩
theorem q_iaddS {s t : List Nat} (h : s.length + t.length ≤ 16777216) (q : Q (.str (s ++ t)) m) : opQ (ioAdd m (.str s) (.str t)) Q m := ⟨_, by unfold ioAdd; dsimp only; rw [if_pos h], q⟩
theorem q_sub {i j : Int} (q : Q (.int (i - j)) m) : opQ (oSub m (.int i) (.int j)) Q m := ⟨_, rfl, q⟩
theorem q_mulL {i j : Int} (h : -18446744073709551616 < i ∧ i < 18446744073709551616) (q : Q (.int (i * j)) m) : opQ (oMul m (.int i) (.int j)) Q m := ⟨_, by
  unfold oMul; dsimp only; rw [if_pos]
  unfold small64
  rw [Bool.or_eq_true, Bool.and_eq_true]
  exact .inl ⟨decide_eq_true h.1, decide_eq_true h.2⟩, q⟩
theorem q_mulR {i j : Int} (h : -18446744073709551616 < j ∧ j < 18446744073709551616) (q : Q (.int (i * j)) m) : opQ (oMul m (.int i) (.int j)) Q m := ⟨_, by
  unfold oMul; dsimp only; rw [if_pos]
  unfold small64
  rw [Bool.or_eq_true, Bool.and_eq_true, Bool.and_eq_true]
  exact .inr ⟨decide_eq_true h.1, decide_eq_true h.2⟩, q⟩
theorem q_mulS {s : List Nat} {j : Int} (h : -1000000 < j ∧ j < 1000000 ∧ s.length ≤ 16) (q : Q (.str (List.replicate j.toNat s).flatten) m) : opQ (oMul m (.str s) (.int j)) Q m := ⟨_, by unfold oMul; dsimp only; rw [if_pos h], q⟩
theorem q_mod {i j : Int} (h : 0 < j) (q : Q (.int (i % j)) m) : opQ (oMod m (.int i) (.int j)) Q m := ⟨_, by unfold oMod; dsimp only; rw [if_pos h], q⟩
theorem q_div {i j : Int} (h : 0 < j ∧ j < 18446744073709551616) (q : Q (.int (i / j)) m) : opQ (oDiv m (.int i) (.int j)) Q m := ⟨_, by unfold oDiv; dsimp only; rw [if_pos h], q⟩
theorem q_pow {i j : Int} (h : 0 ≤ j ∧ j ≤ 64 ∧ i.natAbs.log2 < 100000) (q : Q (.int (i ^ j.toNat)) m) : opQ (oPow m (.int i) (.int j)) Q m := ⟨_, by unfold oPow; dsimp only; rw [if_pos h], q⟩
theorem q_neg {i : Int} (q : Q (.int (-i)) m) : opQ (oNeg m (.int i)) Q m := ⟨_, rfl, q⟩
theorem q_lt {i j : Int} (q : Q (.bl (decide (i < j))) m) : opQ (oLt m (.int i) (.int j)) Q m := ⟨_, rfl, q⟩
theorem q_le {i j : Int} (q : Q (.bl (decide (i ≤ j))) m) : opQ (oLe m (.int i) (.int j)) Q m := ⟨_, rfl, q⟩
theorem q_gt {i j : Int} (q : Q (.bl (decide (j < i))) m) : opQ (oGt m (.int i) (.int j)) Q m := ⟨_, rfl, q⟩
theorem q_ge {i j : Int} (q : Q (.bl (decide (j ≤ i))) m) : opQ (oGe m (.int i) (.int j)) Q m := ⟨_, rfl, q⟩
theorem q_eqI {i j : Int} (q : Q (.bl (decide (i = j))) m) : opQ (oEq m (.int i) (.int j)) Q m := ⟨_, rfl, q⟩
theorem q_eqS {i j : List Nat} (q : Q (.bl (decide (i = j))) m) : opQ (oEq m (.str i) (.str j)) Q m := ⟨_, rfl, q⟩
theorem q_eqB {i j : Bool} (q : Q (.bl (decide (i = j))) m) : opQ (oEq m (.bl i) (.bl j)) Q m := ⟨_, rfl, q⟩
theorem q_neI {i j : Int} (q : Q (.bl (!decide (i = j))) m) : opQ (oNe m (.int i) (.int j)) Q m := ⟨_, rfl, q⟩
theorem q_neS {i j : List Nat} (q : Q (.bl (!decide (i = j))) m) : opQ (oNe m (.str i) (.str j)) Q m := ⟨_, rfl, q⟩
theorem q_neB {i j : Bool} (q : Q (.bl (!decide (i = j))) m) : opQ (oNe m (.bl i) (.bl j)) Q m := ⟨_, rfl, q⟩
theorem q_inC {k : Nat} {s : List Nat} (q : Q (.bl (decide (k ∈ s))) m) : opQ (oIn m (.str [k]) (.str s)) Q m := ⟨_, rfl, q⟩
theorem q_ninC {k : Nat} {s : List Nat} (q : Q (.bl (!decide (k ∈ s))) m) : opQ (oNotIn m (.str [k]) (.str s)) Q m := ⟨_, rfl, q⟩
theorem q_ixT {i : Int} (h : L2.atI ds i = some d) (q : Q d m) : opQ (oIx m (.tup ds) (.int i)) Q m := ⟨d, h, q⟩
theorem q_ixL {i : Int} (h : L2.atI ds i = some d) (q : Q d m) : opQ (oIx m (.lst ds) (.int i)) Q m := ⟨d, h, q⟩
theorem q_ixK {i : Int} (h : L2.atI ds i = some d) (q : Q d m) : opQ (oIx m (.lsk ds) (.int i)) Q m := ⟨d, h, q⟩
theorem q_ixC {k : Nat} {i : Int} (h0 : m[k]? = some (.lst ds)) (h : L2.atI ds i = some d) (q : Q d m) : opQ (oIx m (.cell k) (.int i)) Q m := ⟨d, by unfold oIx; dsimp only; rw [h0]; exact h, q⟩
theorem q_ixS {s : List Nat} {i : Int} {k : Nat} (hl : s.length ≤ 16777216) (h : L2.atI s i = some k) (q : Q (.str [k]) m) : opQ (oIx m (.str s) (.int i)) Q m := ⟨_, by unfold oIx; dsimp only; rw [if_pos hl, h], q⟩
theorem q_slS {s : List Nat} {lo hi : Option Int} (hl : s.length ≤ 16777216) (q : Q (.str (cutD s lo hi)) m) : opQ (slD m (.str s) lo hi) Q m := ⟨_, by unfold slD; dsimp only; rw [if_pos hl], q⟩
theorem q_slT {lo hi : Option Int} (q : Q (.tup (cutD ds lo hi)) m) : opQ (slD m (.tup ds) lo hi) Q m := ⟨_, rfl, q⟩
theorem q_slL {lo hi : Option Int} (q : Q (.lst (cutD ds lo hi)) m) : opQ (slD m (.lst ds) lo hi) Q m := ⟨_, rfl, q⟩
theorem q_slK {lo hi : Option Int} (q : Q (.lst (cutD ds lo hi)) m) : opQ (slD m (.lsk ds) lo hi) Q m := ⟨_, rfl, q⟩
theorem q_lenS {s : List Nat} (hl : s.length ≤ 16777216) (q : Q (.int s.length) m) : opQ (bLen m [.str s]) Q m := ⟨_, by unfold bLen; dsimp only; rw [if_pos hl], q⟩
theorem q_lenT (q : Q (.int ds.length) m) : opQ (bLen m [.tup ds]) Q m := ⟨_, rfl, q⟩
theorem q_lenL (q : Q (.int ds.length) m) : opQ (bLen m [.lst ds]) Q m := ⟨_, rfl, q⟩
theorem q_lenC {k : Nat} (h : m[k]? = some (.lst ds)) (q : Q (.int ds.length) m) : opQ (bLen m [.cell k]) Q m := ⟨_, by unfold bLen; dsimp only; rw [h], q⟩
theorem q_abs {i : Int} (q : Q (.int (if i < 0 then -i else i)) m) : opQ (bAbs m [.int i]) Q m := ⟨_, rfl, q⟩
theorem q_intI {i : Int} (q : Q (.int i) m) : opQ (bInt m [.int i]) Q m := ⟨_, rfl, q⟩
theorem q_intB {v : Bool} (q : Q (.int (if v then 1 else 0)) m) : opQ (bInt m [.bl v]) Q m := ⟨_, rfl, q⟩
theorem q_starts {s t : List Nat} (q : Q (.bl (startsD s t)) m) : opQ (s1 (fun s t => .bl (startsD s t)) s m [.str t]) Q m := ⟨_, rfl, q⟩
theorem toStrs_map : ∀ ss : List (List Nat), toStrs (ss.map D.str) = some ss
  | [] => rfl
  | s :: r => by show toStrs (.str s :: r.map D.str) = _; unfold toStrs; rw [toStrs_map r]
theorem q_joinL {s : List Nat} {ss : List (List Nat)} (hd : ds = ss.map D.str) (hl : (ss.map (·.length)).sum + ss.length * s.length ≤ 16777216) (q : Q (.str (joinD s ss)) m) : opQ (sJoin s m [.lst ds]) Q m := ⟨_, by
  subst hd; unfold sJoin; dsimp only; rw [toStrs_map]; dsimp only; rw [if_pos hl], q⟩
theorem q_isiB {v : Bool} (q : Q (.bl true) m) : opQ (bIsi m [.bl v, .ty "bool"]) Q m := ⟨_, rfl, q⟩
theorem q_isiS {s : List Nat} (q : Q (.bl true) m) : opQ (bIsi m [.str s, .ty "str"]) Q m := ⟨_, rfl, q⟩
end
end VI
namespace VI
open PySem
section
variable {m : Mem} {QA : List D → Mem → Prop} {ds : List D}
theorem it_tup' (q : QA ds m) : itQ QA (.tup ds) m := q
theorem it_lst' (q : QA ds m) : itQ QA (.lst ds) m := q
theorem it_lsk' (q : QA ds m) : itQ QA (.lsk ds) m := q
theorem it_str' {s : List Nat} (q : QA (s.map fun c => .str [c]) m) : itQ QA (.str s) m := q
theorem ixN_ok {n : Nat} {i : Int} (j : Nat) (h : (j : Int) = i) (hj : j < n) : L2.ixN n i = some j := by
  subst h
  unfold L2.ixN
  rw [if_pos (by omega), if_pos (by omega)]
  rfl
theorem atI_ok {α : Type} {xs : List α} {i : Int} {v : α} (j : Nat) (h : (j : Int) = i) (hj : xs[j]? = some v) : L2.atI xs i = some v := by
  unfold L2.atI
  rw [ixN_ok j h (List.getElem?_eq_some_iff.mp hj).1]
  exact hj
/-- at an index that lies within, whatever it is -/
theorem atI_in {α : Type} {xs : List α} {i : Int} (h0 : 0 ≤ i) (h1 : i < xs.length) : ∃ v, L2.atI xs i = some v ∧ v ∈ xs := by
  have hl : i.toNat < xs.length := by omega
  exact ⟨xs[i.toNat], atI_ok i.toNat (by omega) (List.getElem?_eq_getElem hl), List.getElem_mem hl⟩
end
end VI
end
section
namespace VI
open PySem PySem.Spec PyProof.Rows L2
theorem contains_S (t : List Nat) (c : Nat) : (S t).cps.contains c = decide (c ∈ t) := by
  rw [Bool.eq_iff_iff, decide_eq_true_iff, ← Array.contains_toList, S_tl]
  simp
theorem lstrip_S (s t : List Nat) : (Txt.lstripChars (S s) (S t)).cps.toList = s.drop (s.takeWhile fun c => decide (c ∈ t)).length := by
  have hg : (fun c => (S t).cps.contains c) = fun c => decide (c ∈ t) := by funext c; exact contains_S t c
  have e : Txt.lstripChars (S s) (S t) = Builtin.Str.strSub (S s) (s.takeWhile fun c => decide (c ∈ t)).length (S s).length := by
    have hlo : stripLo (S t).cps.contains true (S s) = (s.takeWhile fun c => decide (c ∈ t)).length := by
      unfold stripLo
      rw [if_pos rfl, S_tl, ← hg]
    unfold Txt.lstripChars Txt.stripBy
    split
    · rename_i h
      unfold stripSame at h
      rw [hlo, Bool.and_eq_true] at h
      rw [beq_iff_eq.mp h.1]
      exact (PyProof.Rows.strSub_whole _).symm
    · unfold stripped
      rw [hlo]
      rfl
  rw [e, StrLaws.strSub_toList, S_tl, S_len]
  exact List.take_of_length_le (by rw [List.length_drop]; exact Nat.le_refl _)
theorem q_lstrip {s t : List Nat} {m : Mem} {Q : D → Mem → Prop} (hl : s.length ≤ 16777216) (q : Q (.str (s.drop (s.takeWhile fun c => decide (c ∈ t)).length)) m) : opQ (sLstrip s m [.str t]) Q m := ⟨_, by unfold sLstrip; dsimp only; rw [if_pos hl, lstrip_S], q⟩
end VI
end
section
namespace VI
open PySem
section
variable {ρ : Env} {m : Mem} {QB : Fl → Mem → Prop} {f1 f2 f3 : BF} {v : Bool} {d : D}
/-- where two ways meet -/
def nxQ (P : Env → Mem → Prop) (QB : Fl → Mem → Prop) : Fl → Mem → Prop
  | .nx ρ, m => P ρ m
  | r, m => QB r m
theorem nxq_nx {P : Env → Mem → Prop} (h : P ρ m) : nxQ P QB (.nx ρ) m := h
theorem nxq_rt {P : Env → Mem → Prop} (h : QB (.rt d) m) : nxQ P QB (.rt d) m := h
theorem nxq_seq {P : Env → Mem → Prop} (g : ∀ ρ m, P ρ m → W (f2 ρ m) QB) {r : Fl} {m : Mem} (h : nxQ P QB r m) : seqQ f2 QB r m := by
  cases r with
  | nx ρ => exact g ρ m h
  | rt d => exact h
  | bk d => exact h
  | ct d => exact h
theorem ifq_mid (P : Env → Mem → Prop) (h : ifQ v (W (f1 ρ m) (nxQ P QB)) (W (f3 ρ m) (nxQ P QB))) (g : ∀ ρ m, P ρ m → W (f2 ρ m) QB) : ifQ v (W (f1 ρ m) (seqQ f2 QB)) (W (f3 ρ m) (seqQ f2 QB)) :=
  ⟨fun e => (h.1 e).mono fun _ _ => nxq_seq g, fun e => (h.2 e).mono fun _ _ => nxq_seq g⟩
/-! dict displays -/
variable {Q : D → Mem → Prop} {QD : List (L2.Key × D) → Mem → Prop} {fk fv : EF} {r : DFn}
theorem w_dnil (q : QD [] m) : W (dNil ρ m) QD := ⟨_, m, rfl, q⟩
theorem w_dcons (h : W (fk ρ m) fun x m1 => ∃ k, toKey x = some k ∧ W (fv ρ m1) fun y m2 => W (r ρ m2) fun ps m3 => QD ((k, y) :: ps) m3) : W (dCons fk fv r ρ m) QD := by
  obtain ⟨x, m1, e1, k, e2, y, m2, e3, ps, m3, e4, q⟩ := h
  exact ⟨_, m3, by unfold dCons; rw [e1]; dsimp only; rw [e2]; dsimp only; rw [e3]; dsimp only; rw [e4], q⟩
theorem w_dict (h : W (r ρ (m ++ [.dct []])) fun ps m1 => m1[m.length]? = some (.dct []) ∧ ps.length ≤ 15 ∧ Q (.cell m.length) (m1.set m.length (.dct (mergeD [] ps)))) : W (eDict r ρ m) Q := by
  obtain ⟨ps, m1, e1, e2, e3, q⟩ := h
  exact ⟨_, _, by unfold eDict; rw [e1]; dsimp only; rw [e2]; dsimp only; rw [if_pos e3], q⟩
end
end VI
end
section
namespace VI
open PySem
section
variable {ρ : Env} {m : Mem} {Q : D → Mem → Prop} {QA : List D → Mem → Prop} {QT : Bool → Mem → Prop} {QB : Fl → Mem → Prop} {QG : Env → Mem → Prop} {a b c e : EF} {r : AF} {t u : TF} {f1 f2 : BF} {g : GF} {gs : GFs} {d x y : D} {ds : List D}
theorem w_tru (h : W (a ρ m) fun d m1 => ∃ k, truD m1 d = some k ∧ QT k m1) : W (tTr a ρ m) QT := by
  obtain ⟨d, m1, e1, k, e2, q⟩ := h
  exact ⟨k, m1, by unfold tTr; rw [e1]; dsimp only; rw [e2], q⟩
theorem w_pop (h : W (a ρ m) fun x m1 => ∃ i ds d, x = .cell i ∧ m1[i]? = some (.lst ds) ∧ ds.getLast? = some d ∧ Q d (m1.set i (.lst ds.dropLast))) : W (ePop a ρ m) Q := by
  obtain ⟨x, m1, e1, i, ds, d, rfl, e2, e3, q⟩ := h
  exact ⟨_, _, by unfold ePop; rw [e1]; dsimp only; rw [e2]; dsimp only; rw [e3], q⟩
theorem w_ext (h : W (a ρ m) fun x m1 => ∃ i ds0, x = .cell i ∧ m1[i]? = some (.lst ds0) ∧ W (e ρ m1) fun d m2 => ∃ ds es, m2[i]? = some (.lst ds) ∧ lstD m2 d = some es ∧ ds.length + es.length ≤ 16777216 ∧ Q .non (m2.set i (.lst (ds ++ es)))) : W (eExt a e ρ m) Q := by
  obtain ⟨x, m1, e1, i, ds0, rfl, e2, d, m2, e3, ds, es, e4, e5, hl, q⟩ := h
  exact ⟨_, _, by unfold eExt; rw [e1]; dsimp only; rw [e2]; dsimp only; rw [e3]; dsimp only; rw [e4]; dsimp only; rw [e5]; dsimp only; rw [if_pos hl], q⟩
theorem w_star (h : W (a ρ m) fun d m1 => ∃ es, seqD m1 d = some es ∧ W (r ρ m1) fun xs m2 => QA (es ++ xs) m2) : W (aStar a r ρ m) QA := by
  obtain ⟨d, m1, e1, es, e2, xs, m2, e3, q⟩ := h
  exact ⟨_, m2, by unfold aStar; rw [e1]; dsimp only; rw [e2]; dsimp only; rw [e3], q⟩
theorem w_few (h : W (r ρ m) fun xs m1 => xs.length ≤ 16777216 ∧ QA xs m1) : W (aFew r ρ m) QA := by
  obtain ⟨xs, m1, e1, hl, q⟩ := h
  exact ⟨xs, m1, by unfold aFew; rw [e1]; dsimp only; rw [if_pos hl], q⟩
theorem w_js0 {acc : List Nat} {QS : List Nat → Mem → Prop} (q : QS acc m) : W (jsV [] acc ρ m) QS := ⟨acc, m, rfl, q⟩
theorem w_js {fs : List EF} {acc : List Nat} {QS : List Nat → Mem → Prop} (h : W (a ρ m) fun x m1 => ∃ s, x = .str s ∧ acc.length + s.length ≤ 16777216 ∧ W (jsV fs (acc ++ s) ρ m1) QS) : W (jsV (a :: fs) acc ρ m) QS := by
  obtain ⟨x, m1, e1, s, rfl, hl, y, m2, e2, q⟩ := h
  exact ⟨y, m2, by unfold jsV; rw [e1]; dsimp only; rw [if_pos hl]; exact e2, q⟩
theorem w_fmt {fs : List EF} (h : W (jsV fs [] ρ m) fun s m1 => Q (.str s) m1) : W (eFmt fs ρ m) Q := by
  obtain ⟨s, m1, e1, q⟩ := h
  exact ⟨_, m1, by unfold eFmt; rw [e1], q⟩
theorem w_estr (h : W (a ρ m) fun x m1 => ∃ s, x = .str s ∧ s.length ≤ 16777216 ∧ Q (.str s) m1) : W (eStr a ρ m) Q := by
  obtain ⟨x, m1, e1, s, rfl, hl, q⟩ := h
  exact ⟨_, m1, by unfold eStr; rw [e1]; dsimp only; rw [if_pos hl], q⟩
theorem w_rev (h : W (a ρ m) fun d m1 => ∃ es, lstD m1 d = some es ∧ Q (.lst es.reverse) m1) : W (eRev a ρ m) Q := by
  obtain ⟨d, m1, e1, es, e2, q⟩ := h
  exact ⟨_, m1, by unfold eRev; rw [e1]; dsimp only; rw [e2], q⟩
theorem w_revT (h : W (a ρ m) fun d m1 => ∃ es, d = .tup es ∧ Q (.tup es.reverse) m1) : W (eRevT a ρ m) Q := by
  obtain ⟨d, m1, e1, es, rfl, q⟩ := h
  exact ⟨_, m1, by unfold eRevT; rw [e1], q⟩
theorem w_eqNil (h : W (a ρ m) fun d m1 => ∃ es, lstD m1 d = some es ∧ Q (.bl es.isEmpty) m1) : W (eEqNil a ρ m) Q := by
  obtain ⟨d, m1, e1, es, e2, q⟩ := h
  exact ⟨_, m1, by unfold eEqNil; rw [e1]; dsimp only; rw [e2], q⟩
theorem w_gdix (h : W (a ρ m) fun x m1 => ∃ k, x = .cell k ∧ W (b ρ m1) fun y m2 => ∃ key kvs, toKey y = some key ∧ m2[k]? = some (.dct kvs) ∧ kvs.length < 16777216 ∧ QG ρ (m2.set k (.dct (putKD kvs key d)))) : W (gDix a b d ρ m) QG := by
  obtain ⟨x, m1, e1, k, rfl, y, m2, e2, key, kvs, e3, e4, hl, q⟩ := h
  exact ⟨_, _, by unfold gDix; rw [e1]; dsimp only; rw [e2]; dsimp only; rw [e3]; dsimp only; rw [e4]; dsimp only; rw [if_pos hl], q⟩
theorem w_tupItems (h : W (a ρ m) fun x m1 => ∃ i kvs, x = .cell i ∧ m1[i]? = some (.dct kvs) ∧ Q (.tup (kvs.map pairD)) m1) : W (eTupItems a ρ m) Q := by
  obtain ⟨x, m1, e1, i, kvs, rfl, e2, q⟩ := h
  exact ⟨_, m1, by unfold eTupItems; rw [e1]; dsimp only; rw [e2], q⟩
theorem w_lstC (h : W (a ρ m) fun d m1 => ∃ es, seqD m1 d = some es ∧ Q (.cell m1.length) (m1 ++ [.lst es])) : W (eLstC a ρ m) Q := by
  obtain ⟨d, m1, e1, es, e2, q⟩ := h
  exact ⟨_, _, by unfold eLstC; rw [e1]; dsimp only; rw [e2], q⟩
theorem w_par {i j : Nat} (h : W (a ρ m) fun x m1 => W (b ρ m1) fun y m2 => QB (.nx ((ρ.set i (some x)).set j (some y))) m2) : W (bPar i j a b ρ m) QB := by
  obtain ⟨x, m1, e1, y, m2, e2, q⟩ := h
  exact ⟨_, m2, by unfold bPar; rw [e1]; dsimp only; rw [e2], q⟩
theorem w_unpL {n : Nat} (hl : ds.length = n) (h : W (gs ds ρ m) QG) : W (gUnp n gs (.lst ds) ρ m) QG := by
  obtain ⟨ρ1, m1, e1, q⟩ := h
  exact ⟨_, m1, by unfold gUnp gLst; dsimp only; rw [if_pos hl]; exact e1, q⟩
theorem w_repl {y z : List Nat} (h : W (a ρ m) fun x m1 => ∃ s, x = .str s ∧ s.length + (s.length + 1) * z.length ≤ 16777216 ∧ Q (.str (StrLaws.replL y z s)) m1) : W (eRepl y z a ρ m) Q := by
  obtain ⟨x, m1, e1, s, rfl, hl, q⟩ := h
  exact ⟨_, m1, by unfold eRepl; rw [e1]; dsimp only; rw [if_pos hl], q⟩
theorem q_tupL (q : Q (.tup ds) m) : opQ (bTup m [.lst ds]) Q m := ⟨_, rfl, q⟩
theorem q_lstT (q : Q (.lst ds) m) : opQ (bLst m [.tup ds]) Q m := ⟨_, rfl, q⟩
theorem toInts_map : ∀ is : List Int, toInts (is.map D.int) = some is
  | [] => rfl
  | i :: r => by show toInts (.int i :: r.map D.int) = _; unfold toInts; rw [toInts_map r]
theorem q_sum {is : List Int} (hd : ds = is.map D.int) (q : Q (.int is.sum) m) : opQ (bSum m [.lst ds]) Q m := ⟨_, by subst hd; unfold bSum; dsimp only; rw [toInts_map], q⟩
theorem q_joinC {s : List Nat} {ss : List (List Nat)} {i : Nat} (hm : m[i]? = some (.lst (ss.map D.str))) (hl : (ss.map (·.length)).sum + ss.length * s.length ≤ 16777216) (q : Q (.str (joinD s ss)) m) : opQ (sJoin s m [.cell i]) Q m := ⟨_, by
  unfold sJoin; dsimp only; rw [hm]; dsimp only; rw [toStrs_map]; dsimp only; rw [if_pos hl], q⟩
/-- a walk over a list that stays as it is -/
theorem w_forI (I : Nat → Env → Mem → Prop) (n : Nat) (h : W (a ρ m) fun x m1 => ∃ c ds, x = .cell c ∧ ds.length < n ∧ I 0 ρ m1 ∧ (∀ i ρ m, I i ρ m → m[c]? = some (.lst ds)) ∧
    (∀ i d ρ m, ds[i]? = some d → I i ρ m → W (g d ρ m) fun ρ1 m1 => W (f1 ρ1 m1) (turnQ (I (i + 1)) QB)) ∧ ∀ ρ m, I ds.length ρ m → QB (.nx ρ) m) : W (bForI a g f1 n ρ m) QB := by
  obtain ⟨x, m1, e1, c, ds, rfl, hn, h0, hc, hs, hd⟩ := h
  have key : ∀ (k i : Nat) (ρ : Env) (m : Mem), i ≤ ds.length → ds.length - i < k → I i ρ m → W (forI c g f1 k i ρ m) QB := by
    intro k
    induction k with
    | zero => intro i ρ m _ hk; omega
    | succ k ih =>
      intro i ρ m hi hk hI
      have hm := hc i ρ m hI
      by_cases hlt : i < ds.length
      · obtain ⟨ρ1, m2, e2, y, m3, e3, q⟩ := hs i ds[i] ρ m (List.getElem?_eq_getElem hlt) hI
        have next : ∀ ρ2, I (i + 1) ρ2 m3 → W (forI c g f1 k (i + 1) ρ2 m3) QB := fun ρ2 h2 => ih (i + 1) ρ2 m3 hlt (by omega) h2
        cases y with
        | nx ρ2 =>
          obtain ⟨z, m4, e4, q4⟩ := next ρ2 q
          exact ⟨z, m4, by unfold forI; rw [hm]; dsimp only; rw [List.getElem?_eq_getElem hlt]; dsimp only; rw [e2]; dsimp only; rw [e3]; exact e4, q4⟩
        | ct ρ2 =>
          obtain ⟨z, m4, e4, q4⟩ := next ρ2 q
          exact ⟨z, m4, by unfold forI; rw [hm]; dsimp only; rw [List.getElem?_eq_getElem hlt]; dsimp only; rw [e2]; dsimp only; rw [e3]; exact e4, q4⟩
        | bk ρ2 => exact ⟨_, m3, by unfold forI; rw [hm]; dsimp only; rw [List.getElem?_eq_getElem hlt]; dsimp only; rw [e2]; dsimp only; rw [e3], q⟩
        | rt d => exact ⟨_, m3, by unfold forI; rw [hm]; dsimp only; rw [List.getElem?_eq_getElem hlt]; dsimp only; rw [e2]; dsimp only; rw [e3], q⟩
      · have e : i = ds.length := by omega
        subst e
        exact ⟨_, m, by unfold forI; rw [hm]; dsimp only; rw [List.getElem?_eq_none (Nat.le_refl _)], hd ρ m hI⟩
  obtain ⟨y, m2, e2, q⟩ := key n 0 ρ m1 (Nat.zero_le _) (by omega) h0
  exact ⟨y, m2, by unfold bForI; rw [e1]; exact e2, q⟩
theorem w_compI {own : List Nat} (n : Nat) (I : Nat → List D → Mem → Prop) (h : W (a ρ m) fun x m1 => ∃ c ds, x = .cell c ∧ ds.length < n ∧ ds.length ≤ 16777215 ∧ I 0 [] m1 ∧ (∀ i acc m, I i acc m → m[c]? = some (.lst ds) ∧ acc.length ≤ i) ∧
    (∀ i d acc m, ds[i]? = some d → I i acc m → W (g d (wipeD ρ own) m) fun ρ1 m1 => W (t ρ1 m1) fun v m2 => ifQ v (W (e ρ1 m2) fun y m3 => I (i + 1) (acc ++ [y]) m3) (I (i + 1) acc m2)) ∧ ∀ acc m, I ds.length acc m → Q (.lst acc) m) : W (eCompI own a g t e n ρ m) Q := by
  obtain ⟨x, m1, e1, c, ds, rfl, hn, hl, h0, hc, hs, hd⟩ := h
  have key : ∀ (k i : Nat) (acc : List D) (m : Mem), i ≤ ds.length → ds.length - i < k → I i acc m → W (compI own c g t e ρ k i acc m) fun acc m => Q (.lst acc) m := by
    intro k
    induction k with
    | zero => intro i acc m _ hk; omega
    | succ k ih =>
      intro i acc m hi hk hI
      obtain ⟨hm, ha⟩ := hc i acc m hI
      by_cases hlt : i < ds.length
      · obtain ⟨ρ1, m2, e2, v, m3, e3, q1, q2⟩ := hs i ds[i] acc m (List.getElem?_eq_getElem hlt) hI
        cases v with
        | false =>
          obtain ⟨z, m4, e4, q4⟩ := ih (i + 1) acc m3 hlt (by omega) (q2 rfl)
          exact ⟨z, m4, by unfold compI; rw [hm]; dsimp only; rw [List.getElem?_eq_getElem hlt]; dsimp only; rw [e2]; dsimp only; rw [e3]; exact e4, q4⟩
        | true =>
          obtain ⟨y, m5, e5, q5⟩ := q1 rfl
          obtain ⟨z, m4, e4, q4⟩ := ih (i + 1) (acc ++ [y]) m5 hlt (by omega) q5
          exact ⟨z, m4, by unfold compI; rw [hm]; dsimp only; rw [List.getElem?_eq_getElem hlt]; dsimp only; rw [e2]; dsimp only; rw [e3]; dsimp only; rw [e5]; dsimp only; rw [if_pos (by omega)]; exact e4, q4⟩
      · have e : i = ds.length := by omega
        subst e
        exact ⟨_, m, by unfold compI; rw [hm]; dsimp only; rw [List.getElem?_eq_none (Nat.le_refl _)], hd acc m hI⟩
  obtain ⟨y, m2, e2, q⟩ := key n 0 [] m1 (Nat.zero_le _) (by omega) h0
  exact ⟨_, m2, by unfold eCompI; rw [e1]; dsimp only; rw [e2], q⟩
end
end VI
end
section
namespace VI
open PySem
section
variable {a b c e : EF} {r : AF} {ρ : Env} {m : Mem} {Q : D → Mem → Prop} {d : D} {ds : List D}
theorem w_extT (h : W (a ρ m) fun x m1 => ∃ i ds0, x = .cell i ∧ m1[i]? = some (.lst ds0) ∧ W (e ρ m1) fun d m2 => ∃ ds es, d = .tup es ∧ m2[i]? = some (.lst ds) ∧ ds.length + es.length ≤ 16777216 ∧ Q .non (m2.set i (.lst (ds ++ es)))) : W (eExtT a e ρ m) Q := by
  obtain ⟨x, m1, e1, i, ds0, rfl, h0, y, m2, e2, ds, es, rfl, h1, h2, q⟩ := h
  exact ⟨_, _, by unfold eExtT; rw [e1]; dsimp only; rw [h0]; dsimp only; rw [e2]; dsimp only; rw [h1]; dsimp only; rw [if_pos h2], q⟩
theorem w_revIn (h : W (a ρ m) fun x m1 => ∃ i ds, x = .cell i ∧ m1[i]? = some (.lst ds) ∧ Q .non (m1.set i (.lst ds.reverse))) : W (eRevIn a ρ m) Q := by
  obtain ⟨x, m1, e1, i, ds, rfl, h0, q⟩ := h
  exact ⟨_, _, by unfold eRevIn; rw [e1]; dsimp only; rw [h0], q⟩
theorem w_isi2 {A B : String} (h : W (a ρ m) fun x m1 => ∃ t, tyN m1 x = some t ∧ (["bool", "int", "str", "tuple", "list", "dict"].contains A && ["bool", "int", "str", "tuple", "list", "dict"].contains B) = true ∧ Q (.bl (subT t A || subT t B)) m1) : W (eIsi2 a A B ρ m) Q := by
  obtain ⟨x, m1, e1, t, h0, h1, q⟩ := h
  exact ⟨_, m1, by unfold eIsi2; rw [e1]; dsimp only; rw [h0]; dsimp only; rw [if_pos h1], q⟩
theorem q_isi {d : D} {n t : String} (h : tyN m d = some t) (hn : ["bool", "int", "str", "tuple", "list", "dict"].contains n = true) (q : Q (.bl (subT t n)) m) : opQ (bIsi m [d, .ty n]) Q m := ⟨_, by unfold bIsi; dsimp only; rw [h]; dsimp only; rw [if_pos hn], q⟩
theorem q_all {is : List Bool} (hd : ds = is.map D.bl) (q : Q (.bl (is.all id)) m) : opQ (bAll m [.lst ds]) Q m := ⟨_, by subst hd; unfold bAll; dsimp only; rw [toBls_map], q⟩
/-! ### data -/
def DOk : Nat → D → Prop
  | 0, _ => False
  | n + 1, d => d = .non ∨ (∃ i, d = .int i) ∨ (∃ s, d = .str s) ∨ ∃ ds, (d = .tup ds ∨ d = .lst ds) ∧ ds.length ≤ 100000 ∧ ∀ e ∈ ds, DOk n e
theorem DOk.mono : ∀ {n k : Nat} {d : D}, n ≤ k → DOk n d → DOk k d
  | 0, _, _, _, h => h.elim
  | n + 1, 0, _, h, _ => absurd h (by omega)
  | n + 1, k + 1, d, hk, h => by
    rcases h with h | h | h | ⟨ds, h1, h2, h3⟩
    · exact .inl h
    · exact .inr (.inl h)
    · exact .inr (.inr (.inl h))
    · exact .inr (.inr (.inr ⟨ds, h1, h2, fun e he => DOk.mono (by omega) (h3 e he)⟩))
theorem pds_of {n : Nat} : ∀ {ds : List D}, (∀ e ∈ ds, ∃ p, e.pd = some p ∧ p.plain = true ∧ p.depth ≤ n) → ∃ ps, D.pds ds = some ps ∧ PyData.plainAll ps = true ∧ PyData.depthAll ps ≤ n
  | [], _ => ⟨[], rfl, rfl, Nat.zero_le _⟩
  | d :: r, h => by
    obtain ⟨p, e1, e2, e3⟩ := h d List.mem_cons_self
    obtain ⟨ps, f1, f2, f3⟩ := pds_of fun e he => h e (List.mem_cons_of_mem _ he)
    refine ⟨p :: ps, by unfold D.pds; rw [e1]; dsimp only; rw [f1], by show (p.plain && PyData.plainAll ps) = true; rw [e2, f2]; rfl, ?_⟩
    show max p.depth (PyData.depthAll ps) ≤ n
    omega
theorem DOk.pd : ∀ {n : Nat} {d : D}, DOk n d → ∃ p, d.pd = some p ∧ p.plain = true ∧ p.depth ≤ n
  | 0, _, h => h.elim
  | n + 1, d, h => by
    rcases h with rfl | ⟨i, rfl⟩ | ⟨s, rfl⟩ | ⟨ds, h1, _, h3⟩
    · exact ⟨.none, rfl, rfl, Nat.zero_le _⟩
    · exact ⟨.int i, rfl, rfl, Nat.zero_le _⟩
    · exact ⟨.str (S s), rfl, rfl, Nat.zero_le _⟩
    · obtain ⟨ps, e1, e2, e3⟩ := pds_of fun e he => (h3 e he).pd
      rcases h1 with rfl | rfl
      · exact ⟨.tuple ps, by unfold D.pd; rw [e1], e2, by show PyData.depthAll ps + 1 ≤ _; omega⟩
      · exact ⟨.list ps, by unfold D.pd; rw [e1], e2, by show PyData.depthAll ps + 1 ≤ _; omega⟩
theorem eqDt_same {n : Nat} {d : D} (h : DOk n d) (hn : n ≤ 64) : eqDt d d = some true := by
  obtain ⟨p, e1, e2, e3⟩ := h.pd
  have hp : okPD p = true := by unfold okPD; rw [e2, decide_eq_true (by omega : p.depth ≤ 64)]; rfl
  unfold eqDt
  rw [e1]
  dsimp only
  rw [hp, Bool.and_self, if_pos rfl, SeqAt.eqv_refl_plain p e2]
theorem eqSc_same {n : Nat} {d : D} (h : DOk n d) (hs : isSc d = true) : eqSc d d = some true := by
  cases n with
  | zero => exact h.elim
  | succ n =>
    rcases h with rfl | ⟨i, rfl⟩ | ⟨s, rfl⟩ | ⟨ds, rfl | rfl, _⟩
    · rfl
    · show some (decide (i = i)) = _; rw [decide_eq_true rfl]
    · show some (decide (s = s)) = _; rw [decide_eq_true rfl]
    · cases hs
    · cases hs
theorem q_eqSame {n : Nat} (h : DOk n d) (hn : n ≤ 64) (q : Q (.bl true) m) : opQ (oEq m d d) Q m := ⟨_, by
  unfold oEq
  split
  · rename_i hs
    rw [eqSc_same h (by rw [Bool.and_self] at hs; exact hs)]
  · rw [eqDt_same h hn], q⟩
theorem q_neSame {n : Nat} (h : DOk n d) (hn : n ≤ 64) (q : Q (.bl false) m) : opQ (oNe m d d) Q m := ⟨_, by
  unfold oNe
  split
  · rename_i hs
    rw [eqSc_same h (by rw [Bool.and_self] at hs; exact hs)]; rfl
  · rw [eqDt_same h hn]; rfl, q⟩
end
end VI
end
section
namespace VI
open PySem
section
variable {a b c e : EF} {r : AF} {ρ : Env} {m : Mem} {Q : D → Mem → Prop} {d : D} {ds : List D} {own : List Nat} {g : GF} {t : TF}
theorem toStrs_mapS : ∀ xs : List (List Nat), toStrs (xs.map D.str) = some xs
  | [] => rfl
  | x :: r => by show (match toStrs (r.map D.str) with | some ss => some (x :: ss) | none => none) = _; rw [toStrs_mapS r]
theorem w_lenSc (h : W (eComp own r g t e ρ m) fun y m1 => ∃ xs, y = .lst (xs.map D.str) ∧ xs.length ≤ 4000 ∧ Q (.int (dset xs).length) m1) : W (eLenSc own r g t e ρ m) Q := by
  obtain ⟨y, m1, e1, xs, rfl, hl, q⟩ := h
  unfold eComp eLst at e1
  split at e1
  · rename_i res m2 h2
    cases e1
    exact ⟨_, m1, by unfold eLenSc; rw [h2]; dsimp only; rw [toStrs_mapS]; dsimp only; rw [if_pos (by rw [List.length_map]; exact hl)], q⟩
  · cases e1
theorem w_listZip (h : W (r ρ m) fun ds m1 => ∃ xs ys, ds = [.lst xs, .lst ys] ∧ Q (.lst (zipD xs ys)) m1) : W (eListZip r ρ m) Q := by
  obtain ⟨ds, m1, e1, xs, ys, rfl, q⟩ := h
  exact ⟨_, m1, by unfold eListZip; rw [e1], q⟩
theorem q_inD {x y : D} {v : Bool} (h : inData x y = some v) (q : Q (.bl v) m) : opQ (oInD m x y) Q m := ⟨_, by unfold oInD; rw [h], q⟩
theorem w_cnt (h : W (a ρ m) fun d m1 => ∃ ds, lstD m1 d = some ds ∧ W (e ρ m1) fun x m2 => ∃ ds2 n, lstD m2 d = some ds2 ∧ countD x ds2 = some n ∧ Q (.int n) m2) : W (eCnt a e ρ m) Q := by
  obtain ⟨d, m1, e1, ds, h1, x, m2, e2, ds2, n, h2, h3, q⟩ := h
  exact ⟨_, m2, by unfold eCnt; rw [e1]; dsimp only; rw [h1]; dsimp only; rw [e2]; dsimp only; rw [h2]; dsimp only; rw [h3], q⟩
theorem pds_strs : ∀ xs : List (List Nat), D.pds (xs.map D.str) = some (xs.map fun x => .str (S x))
  | [] => rfl
  | x :: r => by
    show (match (D.str x).pd with | some p => (match D.pds (r.map D.str) with | some ps => some (p :: ps) | none => none) | none => none) = _
    rw [pds_strs r]; rfl
theorem plain_strs : ∀ xs : List (List Nat), PyData.plainAll (xs.map fun x => .str (S x)) = true
  | [] => rfl
  | x :: r => by show (true && _) = true; rw [plain_strs r]; rfl
theorem depth_strs : ∀ xs : List (List Nat), PyData.depthAll (xs.map fun x => .str (S x)) = 0
  | [] => rfl
  | x :: r => by show max 0 (PyData.depthAll _) = 0; rw [depth_strs r]; rfl
theorem okPD_strs (xs : List (List Nat)) : okPD (.list (xs.map fun x => .str (S x))) = true := by
  unfold okPD
  rw [Bool.and_eq_true]
  refine ⟨plain_strs xs, decide_eq_true ?_⟩
  show PyData.depthAll _ + 1 ≤ 64
  rw [depth_strs]
  decide
theorem eqv_str (a b : List Nat) : PyData.eqv (.str (S a)) (.str (S b)) = decide (a = b) := by
  have : PyData.eqv (.str (S a)) (.str (S b)) = (S a == S b) := rfl
  rw [this]
  by_cases h : a = b
  · subst h; simp
  · rw [decide_eq_false h]
    exact beq_eq_false_iff_ne.mpr fun e => h (S_inj e)
theorem countD_strs (x : List Nat) (xs : List (List Nat)) : countD (.str x) (xs.map D.str) = some (xs.count x) := by
  unfold countD
  rw [pds_strs]
  have h2 : (D.str x).pd = some (.str (S x)) := rfl
  rw [h2]
  dsimp only
  rw [okPD_strs, show okPD (.str (S x)) = true from rfl, Bool.and_self, if_pos rfl]
  congr 1
  rw [List.countP_map]
  unfold List.count
  congr 1
  funext y
  show PyData.eqv _ _ = _
  rw [eqv_str]
  by_cases h : y = x
  · subst h; simp
  · rw [decide_eq_false h]; exact (beq_eq_false_iff_ne.mpr h).symm
theorem q_neNilS {xs : List (List Nat)} (q : Q (.bl (!xs.isEmpty)) m) : opQ (oNe m (.lst (xs.map D.str)) (.lst [])) Q m := by
  refine ⟨_, ?_, q⟩
  unfold oNe
  rw [if_neg (fun h => nomatch h)]
  unfold eqDt
  have h1 : (D.lst (xs.map D.str)).pd = some (.list (xs.map fun x => .str (S x))) := by unfold D.pd; rw [pds_strs]
  rw [h1, show (D.lst []).pd = some (.list []) from rfl]
  dsimp only
  rw [okPD_strs, show okPD (.list []) = true from rfl, Bool.and_self, if_pos rfl]
  cases xs <;> rfl
/-- two alike behind one another -/
def nbB (z : List Nat) : List (List Nat) → Bool
  | a :: b :: r => (decide (a = z) && decide (b = z)) || nbB z (b :: r)
  | _ => false
def pairP (a b : List Nat) : PyData := .tuple [.str (S a), .str (S b)]
def zipS : List (List Nat) → List (List Nat) → List PyData
  | x :: xs, y :: ys => pairP x y :: zipS xs ys
  | _, _ => []
theorem pds_zip : ∀ xs ys : List (List Nat), D.pds (zipD (xs.map D.str) (ys.map D.str)) = some (zipS xs ys)
  | [], _ => rfl
  | x :: xs, [] => rfl
  | x :: xs, y :: ys => by
    show (match (D.tup [D.str x, D.str y]).pd with | some p => (match D.pds (zipD (xs.map D.str) (ys.map D.str)) with | some ps => some (p :: ps) | none => none) | none => none) = _
    rw [pds_zip xs ys]; rfl
theorem plain_zip : ∀ xs ys : List (List Nat), PyData.plainAll (zipS xs ys) = true
  | [], _ => rfl
  | x :: xs, [] => rfl
  | x :: xs, y :: ys => by show (true && _) = true; rw [plain_zip xs ys]; rfl
theorem depth_zip : ∀ xs ys : List (List Nat), PyData.depthAll (zipS xs ys) ≤ 1
  | [], _ => Nat.zero_le _
  | x :: xs, [] => Nat.zero_le _
  | x :: xs, y :: ys => by
    show max 1 (PyData.depthAll _) ≤ 1
    have := depth_zip xs ys
    omega
theorem eqv_pair (a b z : List Nat) : PyData.eqv (pairP a b) (pairP z z) = (decide (a = z) && decide (b = z)) := by
  have : PyData.eqv (pairP a b) (pairP z z) = (PyData.eqv (.str (S a)) (.str (S z)) && (PyData.eqv (.str (S b)) (.str (S z)) && true)) := rfl
  rw [this, eqv_str, eqv_str, Bool.and_true]
theorem any_zip (z : List Nat) : ∀ ks : List (List Nat), (zipS ks ks.tail).any (fun y => PyData.eqv y (pairP z z)) = nbB z ks
  | [] => rfl
  | [a] => rfl
  | a :: b :: r => by
    show (PyData.eqv (pairP a b) (pairP z z) || (zipS (b :: r) (b :: r).tail).any _) = _
    rw [eqv_pair, any_zip z (b :: r)]
    rfl
theorem inData_nb (z : List Nat) (ks : List (List Nat)) : inData (.tup [.str z, .str z]) (.lst (zipD (ks.map D.str) (ks.tail.map D.str))) = some (nbB z ks) := by
  unfold inData
  have h1 : (D.lst (zipD (ks.map D.str) (ks.tail.map D.str))).pd = some (.list (zipS ks ks.tail)) := by unfold D.pd; rw [pds_zip]
  have h2 : (D.tup [D.str z, D.str z]).pd = some (pairP z z) := rfl
  rw [h1, h2]
  dsimp only
  have o1 : okPD (.list (zipS ks ks.tail)) = true := by
    unfold okPD
    rw [Bool.and_eq_true]
    refine ⟨plain_zip _ _, decide_eq_true ?_⟩
    show PyData.depthAll _ + 1 ≤ 64
    have := depth_zip ks ks.tail
    omega
  rw [o1, show okPD (pairP z z) = true from rfl, Bool.and_self, if_pos rfl, any_zip]
end
end VI
end
section
namespace VI
open PySem
section
variable {a b c e : EF} {r : AF} {ρ : Env} {m : Mem} {Q : D → Mem → Prop} {d : D} {ds : List D}
theorem w_extA (h : W (a ρ m) fun x m1 => ∃ i ds0, x = .cell i ∧ m1[i]? = some (.lst ds0) ∧ W (e ρ m1) fun d m2 => ∃ ds es, m2[i]? = some (.lst ds) ∧ anyD m2 d = some es ∧ ds.length + es.length ≤ 16777216 ∧ Q .non (m2.set i (.lst (ds ++ es)))) : W (eExtA a e ρ m) Q := by
  obtain ⟨x, m1, e1, i, ds0, rfl, e2, d, m2, e3, ds, es, e4, e5, hl, q⟩ := h
  exact ⟨_, _, by unfold eExtA; rw [e1]; dsimp only; rw [e2]; dsimp only; rw [e3]; dsimp only; rw [e4]; dsimp only; rw [e5]; dsimp only; rw [if_pos hl], q⟩
theorem q_rep {ds : List D} {k : Int} (h : -1000000 < k ∧ k < 1000000 ∧ ds.length ≤ 16) (q : Q (.lst (List.replicate k.toNat ds).flatten) m) : opQ (oRep m (.lst ds) (.int k)) Q m := ⟨_, by unfold oRep; dsimp only; rw [if_pos h], q⟩
end
end VI
end
section
namespace VI
open PySem
section
variable {a b c e : EF} {r r1 : AF} {ρ : Env} {m : Mem} {Q : D → Mem → Prop} {QA : List D → Mem → Prop} {d : D} {ds : List D} {own own1 : List Nat} {g g1 : GF} {t : TF}
theorem w_enum (h : W (a ρ m) fun x m1 => ∃ ds, x = .lst ds ∧ QA (enumD 0 ds) m1) : W (aEnum a ρ m) QA := by
  obtain ⟨x, m1, e1, ds, rfl, q⟩ := h
  exact ⟨_, m1, by unfold aEnum; rw [e1], q⟩
theorem q_split {s t : List Nat} (h : t ≠ [] ∧ s.length ≤ 1000000) (q : Q (.lst ((splitL s t).map .str)) m) : opQ (sSplit s m [.str t]) Q m := ⟨_, by unfold sSplit; dsimp only; rw [if_pos h], q⟩
theorem w_words (h : W (a ρ m) fun x m1 => ∃ s, x = .str s ∧ s.length ≤ 1000000 ∧ Q (.lst ((wordsL s).map .str)) m1) : W (eWords a ρ m) Q := by
  obtain ⟨x, m1, e1, s, rfl, hl, q⟩ := h
  exact ⟨_, m1, by unfold eWords; rw [e1]; dsimp only; rw [if_pos hl], q⟩
theorem q_mulBig {s : List Nat} {j : Int} (h : -1000 < j ∧ j < 1000 ∧ s.length ≤ 1000) (q : Q (.str (List.replicate j.toNat s).flatten) m) : opQ (oMulS m (.str s) (.int j)) Q m := ⟨_, by unfold oMulS; dsimp only; rw [if_pos h], q⟩
theorem w_frz2 (h : W (a ρ m) fun x m1 => ∃ c ds es m2, x = .cell c ∧ m1[c]? = some (.lst ds) ∧ frz2 ds (m1.set c .dead) = some (es, m2) ∧ Q (.lst es) m2) : W (eFrz2 a ρ m) Q := by
  obtain ⟨x, m1, e1, c, ds, es, m2, rfl, h1, h2, q⟩ := h
  exact ⟨_, m2, by unfold eFrz2; rw [e1]; dsimp only; rw [h1]; dsimp only; rw [h2], q⟩
theorem w_compC (I : Nat → List D → Mem → Prop) (h : W (r ρ m) fun ds m1 => ds.length ≤ 16777215 ∧ I 0 [] m1 ∧
    (∀ i d acc m, ds[i]? = some d → I i acc m → W (g d (wipeD ρ own) m) fun ρ1 m1 => W (t ρ1 m1) fun v m2 => ifQ v (W (e ρ1 m2) fun y m3 => I (i + 1) (acc ++ [y]) m3) (I (i + 1) acc m2)) ∧ ∀ acc m, I ds.length acc m → Q (.cell m.length) (m ++ [.lst acc])) : W (eCompC own r g t e ρ m) Q := by
  obtain ⟨ds, m1, e1, hl, h0, hs, hd⟩ := h
  obtain ⟨y, m2, e2, q⟩ := w_compV (ρ := ρ) (own := own) (g := g) (t := t) (e := e) (QA := fun acc m => Q (.cell m.length) (m ++ [.lst acc])) I ds 0 [] m1 h0 (fun i d acc m hi hI => by rw [Nat.zero_add] at hI ⊢; exact hs i d acc m hi hI) (fun acc m hI => hd acc m (by rw [Nat.zero_add] at hI; exact hI))
  exact ⟨_, _, by unfold eCompC eCel aComp; rw [e1]; dsimp only; rw [if_pos hl, e2], q⟩
theorem w_comp2V (I : Nat → List D → Mem → Prop) {QA : List D → Mem → Prop} : ∀ (ds : List D) (k : Nat) (acc : List D) (m : Mem), I k acc m →
    (∀ i d acc m, ds[i]? = some d → I (k + i) acc m → W (g d (wipeD ρ own) m) fun ρ1 m1 => W (r1 ρ1 m1) fun ds1 m2 => ∃ J : Nat → List D → Mem → Prop, J 0 acc m2 ∧
      (∀ j d acc m, ds1[j]? = some d → J j acc m → W (g1 d (wipeD ρ1 own1) m) fun ρ2 m3 => W (e ρ2 m3) fun y m4 => J (j + 1) (acc ++ [y]) m4) ∧ ∀ acc m, J ds1.length acc m → I (k + i + 1) acc m) →
    (∀ acc m, I (k + ds.length) acc m → QA acc m) → W (comp2V own own1 g r1 g1 e ρ ds acc m) QA
  | [], k, acc, m, h0, _, hd => ⟨_, m, rfl, hd acc m h0⟩
  | d :: ds, k, acc, m, h0, hs, hd => by
    obtain ⟨ρ1, m1, e1, ds1, m2, e2, J, j0, js, jd⟩ := hs 0 d acc m rfl h0
    obtain ⟨acc1, m3, e3, q3⟩ := w_compV (ρ := ρ1) (own := own1) (g := g1) (t := tYes) (e := e) (QA := fun acc m => I (k + 1) acc m) J ds1 0 acc m2 j0 (fun j d acc m hj hJ => by
      rw [Nat.zero_add] at hJ ⊢
      obtain ⟨ρ2, m4, f1, y, m5, f2, q⟩ := js j d acc m hj hJ
      exact ⟨ρ2, m4, f1, true, m4, rfl, fun _ => ⟨y, m5, f2, q⟩, fun h => nomatch h⟩) (fun acc m hJ => by rw [Nat.zero_add] at hJ; exact jd acc m hJ)
    obtain ⟨res, m4, e4, q4⟩ := w_comp2V I (QA := QA) ds (k + 1) acc1 m3 q3 (fun i d acc m hi hI => by
      have h := hs (i + 1) d acc m hi (by rw [show k + (i + 1) = k + 1 + i by omega]; exact hI)
      rw [show k + (i + 1) + 1 = k + 1 + i + 1 by omega] at h
      exact h) (fun acc m hI => hd acc m (by rw [List.length_cons, show k + (ds.length + 1) = k + 1 + ds.length by omega]; exact hI))
    exact ⟨res, m4, by unfold comp2V; rw [e1]; dsimp only; rw [e2]; dsimp only; rw [e3]; exact e4, q4⟩
theorem w_comp2C (I : Nat → List D → Mem → Prop) (h : W (r ρ m) fun ds m1 => I 0 [] m1 ∧
    (∀ i d acc m, ds[i]? = some d → I i acc m → W (g d (wipeD ρ own) m) fun ρ1 m1 => W (r1 ρ1 m1) fun ds1 m2 => ∃ J : Nat → List D → Mem → Prop, J 0 acc m2 ∧
      (∀ j d acc m, ds1[j]? = some d → J j acc m → W (g1 d (wipeD ρ1 own1) m) fun ρ2 m3 => W (e ρ2 m3) fun y m4 => J (j + 1) (acc ++ [y]) m4) ∧ ∀ acc m, J ds1.length acc m → I (i + 1) acc m) ∧
    ∀ acc m, I ds.length acc m → acc.length ≤ 16777215 ∧ Q (.cell m.length) (m ++ [.lst acc])) : W (eComp2C own own1 r g r1 g1 e ρ m) Q := by
  obtain ⟨ds, m1, e1, h0, hs, hd⟩ := h
  obtain ⟨y, m2, e2, hl, q⟩ := w_comp2V (ρ := ρ) (own := own) (own1 := own1) (g := g) (r1 := r1) (g1 := g1) (e := e) (QA := fun acc m => acc.length ≤ 16777215 ∧ Q (.cell m.length) (m ++ [.lst acc])) I ds 0 [] m1 h0 (fun i d acc m hi hI => by rw [Nat.zero_add] at hI ⊢; exact hs i d acc m hi hI) (fun acc m hI => hd acc m (by rw [Nat.zero_add] at hI; exact hI))
  exact ⟨_, _, by unfold eComp2C eCel aComp2; rw [e1]; dsimp only; rw [e2]; dsimp only; rw [if_pos hl], q⟩
theorem w_neNil (h : W (a ρ m) fun d m1 => ∃ es, lstD m1 d = some es ∧ Q (.bl (!es.isEmpty)) m1) : W (eNeNil a ρ m) Q := by
  obtain ⟨d, m1, e1, es, e2, q⟩ := h
  exact ⟨_, m1, by unfold eNeNil; rw [e1]; dsimp only; rw [e2], q⟩
/-! a text parted by a sign -/
def joinC (c : Nat) : List (List Nat) → List Nat
  | [] => []
  | [x] => x
  | x :: y :: r => x ++ c :: joinC c (y :: r)
theorem splitL_join (s : List Nat) (c : Nat) : joinC c (splitL s [c]) = s := by
  have h := congrArg (fun x : Str => x.cps.toList) (StrLaws.join_split (S s) (S [c]))
  have key : ∀ l : List Str, (Str.join (S [c]) l).cps.toList = joinC c (l.map fun x => x.cps.toList) := by
    intro l
    induction l with
    | nil => rfl
    | cons x r ih =>
      cases r with
      | nil => rfl
      | cons y r =>
        show (x ++ S [c] ++ Str.join (S [c]) (y :: r)).cps.toList = _
        have e : ∀ a b : Str, (a ++ b).cps.toList = a.cps.toList ++ b.cps.toList := fun a b => by
          show (a.cps ++ b.cps).toList = _
          rw [Array.toList_append]
        rw [e, e, ih, S_tl, List.append_assoc]
        rfl

  rw [key, S_tl] at h
  exact h
theorem splitL_free (s : List Nat) (c : Nat) : ∀ p ∈ splitL s [c], c ∉ p := by
  intro p hp
  obtain ⟨x, hx, rfl⟩ := List.mem_map.mp hp
  exact StrLaws.split_free (S s) c x hx
end
end VI
end
section
namespace VI
open PySem
section
variable {a b c e : EF} {r r1 : AF} {ρ : Env} {m : Mem} {Q : D → Mem → Prop} {QA : List D → Mem → Prop} {d : D} {ds : List D} {own own1 : List Nat} {g g1 : GF} {t : TF}
theorem w_comp2 (I : Nat → List D → Mem → Prop) (h : W (r ρ m) fun ds m1 => I 0 [] m1 ∧
    (∀ i d acc m, ds[i]? = some d → I i acc m → W (g d (wipeD ρ own) m) fun ρ1 m1 => W (r1 ρ1 m1) fun ds1 m2 => ∃ J : Nat → List D → Mem → Prop, J 0 acc m2 ∧
      (∀ j d acc m, ds1[j]? = some d → J j acc m → W (g1 d (wipeD ρ1 own1) m) fun ρ2 m3 => W (e ρ2 m3) fun y m4 => J (j + 1) (acc ++ [y]) m4) ∧ ∀ acc m, J ds1.length acc m → I (i + 1) acc m) ∧
    ∀ acc m, I ds.length acc m → acc.length ≤ 16777215 ∧ Q (.lst acc) m) : W (eComp2 own own1 r g r1 g1 e ρ m) Q := by
  obtain ⟨ds, m1, e1, h0, hs, hd⟩ := h
  obtain ⟨y, m2, e2, hl, q⟩ := w_comp2V (ρ := ρ) (own := own) (own1 := own1) (g := g) (r1 := r1) (g1 := g1) (e := e) (QA := fun acc m => acc.length ≤ 16777215 ∧ Q (.lst acc) m) I ds 0 [] m1 h0 (fun i d acc m hi hI => by rw [Nat.zero_add] at hI ⊢; exact hs i d acc m hi hI) (fun acc m hI => hd acc m (by rw [Nat.zero_add] at hI; exact hI))
  exact ⟨_, _, by unfold eComp2 eLst aComp2; rw [e1]; dsimp only; rw [e2]; dsimp only; rw [if_pos hl], q⟩
end
end VI
end
section
namespace VI
open PySem PySem.Spec PyProof.Rows L2
section
variable {a b e f : EF} {r : AF} {ρ : Env} {m : Mem} {Q : D → Mem → Prop} {s t : List Nat} {c : Nat}
/-! ### a dict of the module -/
theorem w_ixK {kvs : List (List Nat × D)} (h : W (a ρ m) fun x m1 => ∃ z d, x = .str z ∧ kvs.lookup z = some d ∧ Q d m1) : W (eIxK kvs a ρ m) Q := by
  obtain ⟨x, m1, h1, z, d, rfl, h2, q⟩ := h
  exact ⟨d, m1, by unfold eIxK; rw [h1]; dsimp only; rw [h2], q⟩
theorem w_inK {neg : Bool} {kvs : List (List Nat × D)} (h : W (a ρ m) fun x m1 => ∃ z, x = .str z ∧ Q (.bl ((kvs.lookup z).isSome != neg)) m1) : W (eInK neg kvs a ρ m) Q := by
  obtain ⟨x, m1, h1, z, rfl, q⟩ := h
  exact ⟨_, m1, by unfold eInK; rw [h1], q⟩
/-! ### texts -/
def stripL (s t : List Nat) : List Nat := (s.drop (s.takeWhile fun c => decide (c ∈ t)).length).take (s.length - ((s.drop (s.takeWhile fun c => decide (c ∈ t)).length).reverse.takeWhile fun c => decide (c ∈ t)).length - (s.takeWhile fun c => decide (c ∈ t)).length)
theorem strip_S (s t : List Nat) : (Txt.stripChars (S s) (S t)).cps.toList = stripL s t := by
  have hg : (S t).cps.contains = fun c => decide (c ∈ t) := by funext c; exact contains_S t c
  have hlo : stripLo (S t).cps.contains true (S s) = (s.takeWhile fun c => decide (c ∈ t)).length := by
    unfold stripLo
    rw [if_pos rfl, S_tl, hg]
  have hhi : stripHi (S t).cps.contains true (S s) (s.takeWhile fun c => decide (c ∈ t)).length = s.length - ((s.drop (s.takeWhile fun c => decide (c ∈ t)).length).reverse.takeWhile fun c => decide (c ∈ t)).length := by
    unfold stripHi
    rw [if_pos rfl, S_tl, hg, S_len]
  have e : Txt.stripChars (S s) (S t) = Builtin.Str.strSub (S s) (s.takeWhile fun c => decide (c ∈ t)).length (s.length - ((s.drop (s.takeWhile fun c => decide (c ∈ t)).length).reverse.takeWhile fun c => decide (c ∈ t)).length) := by
    unfold Txt.stripChars Txt.stripBy
    split
    · rename_i h
      unfold stripSame at h
      rw [hlo, hhi, Bool.and_eq_true] at h
      rw [beq_iff_eq.mp h.2, beq_iff_eq.mp h.1]
      exact (PyProof.Rows.strSub_whole _).symm
    · unfold stripped
      rw [hlo, hhi]
  rw [e, StrLaws.strSub_toList, S_tl]
  rfl
theorem q_strip (hl : s.length ≤ 16777216) (q : Q (.str (stripL s t)) m) : opQ (sStrip s m [.str t]) Q m := ⟨_, by unfold sStrip; dsimp only; rw [if_pos hl, strip_S], q⟩
theorem S_one (c : Nat) : S [c] = (⟨#[c]⟩ : Str) := rfl
theorem removeprefix_S (s : List Nat) (c : Nat) : (Txt.removeprefix (S s) (S [c])).cps.toList = if s.head? = some c then s.tail else s := by
  rw [StrLaws.removeprefix_eq, S_one]
  have h := StrLaws.subAt_one (S s) c 0
  rw [S_tl] at h
  have e : ((decide (0 + (⟨#[c]⟩ : Str).length ≤ (S s).length) && Builtin.Str.subAt (S s) ⟨#[c]⟩ 0) = true) ↔ s.head? = some c := by
    rw [Bool.and_eq_true, decide_eq_true_iff, h, List.head?_eq_getElem?]
  by_cases hc : s.head? = some c
  · rw [if_pos (e.mpr hc), if_pos hc]
    show ((S s).cps.toList.drop 1).take ((S s).length - 1) = s.tail
    rw [S_tl, S_len, List.drop_one]
    exact List.take_of_length_le (by rw [List.length_tail]; exact Nat.le_refl _)
  · rw [if_neg (fun g => hc (e.mp g)), if_neg hc, S_tl]
theorem q_removeprefix (hl : s.length ≤ 16777216) (q : Q (.str (if s.head? = some c then s.tail else s)) m) : opQ (sRemovePrefix s m [.str [c]]) Q m := ⟨_, by unfold sRemovePrefix; dsimp only; rw [if_pos hl, removeprefix_S], q⟩
theorem fromIx (s : List Nat) (i : Nat) : fromIndex (S s).length (i : Int) = i := by
  unfold fromIndex
  rw [if_neg (by omega)]
  omega
theorem getD_S {s : List Nat} {v : Nat} (hv : v < s.length) : ((S s).cps.getD v 0 = c) ↔ s[v]? = some c := by
  have h1 : (S s).cps.getD v 0 = ((S s).cps.toList[v]?).getD 0 := by
    rw [Array.getElem?_toList, Array.getD_eq_getD_getElem?]
  rw [h1, S_tl, List.getElem?_eq_getElem hv]
  simp
theorem q_find3 {i : Nat} (h1 : (∀ v, i ≤ v → s[v]? ≠ some c) → Q (.int (-1)) m) (h2 : ∀ k : Nat, i ≤ k → k < s.length → s[k]? = some c → (∀ v, i ≤ v → v < k → s[v]? ≠ some c) → Q (.int (k : Int)) m) : opQ (sFind s m [.str [c], .int (i : Int)]) Q m := by
  refine ⟨_, rfl, ?_⟩
  rw [S_one]
  rcases StrLaws.find3_spec (S s) c (i : Int) with ⟨e, h⟩ | ⟨k, e, k1, k2, k3, k4⟩
  · rw [e]
    refine h1 fun v hv hc => ?_
    have hl : v < s.length := (List.getElem?_eq_some_iff.mp hc).1
    exact h v (by rw [fromIx]; exact hv) (by rw [S_len]; exact hl) ((getD_S hl).mpr hc)
  · rw [e]
    rw [fromIx] at k1 k4
    rw [S_len] at k2
    exact h2 k k1 k2 ((getD_S k2).mp k3) fun v hv hk hc => k4 v hv hk ((getD_S (by omega)).mpr hc)
theorem q_starts3 {i : Nat} (q : Q (.bl (decide (s[i]? = some c))) m) : opQ (sStarts3 s m [.str [c], .int (i : Int)]) Q m := by
  refine ⟨_, rfl, ?_⟩
  rw [S_one]
  unfold Txt.startswith3
  rw [fromIx]
  have h := StrLaws.subAt_one (S s) c i
  rw [S_tl] at h
  have e : (decide (i + (⟨#[c]⟩ : Str).length ≤ (S s).length) && Builtin.Str.subAt (S s) ⟨#[c]⟩ i) = decide (s[i]? = some c) := by
    rw [Bool.eq_iff_iff, Bool.and_eq_true, decide_eq_true_iff, h, decide_eq_true_iff]
  rw [e]
  exact q
theorem q_intS {n : Int} (hl : s.length ≤ 640) (hn : PySem.intText? (S s) = some n) (q : Q (.int n) m) : opQ (bIntS m [.str s]) Q m := ⟨_, by unfold bIntS; dsimp only; rw [if_pos hl, hn], q⟩
theorem q_strI {i : Int} (hl : i.natAbs.log2 < 1920) (q : Q (.str (strI i)) m) : opQ (bStrI m [.int i]) Q m := ⟨_, by unfold bStrI; dsimp only; rw [if_pos hl], q⟩
theorem q_joinT {ds : List D} {ss : List (List Nat)} (hd : ds = ss.map D.str) (hl : (ss.map (·.length)).sum + ss.length * s.length ≤ 16777216) (q : Q (.str (joinD s ss)) m) : opQ (sJoinT s m [.tup ds]) Q m := ⟨_, by
  subst hd
  unfold sJoinT
  dsimp only
  rw [toStrs_map]
  dsimp only
  rw [if_pos hl], q⟩
end
end VI
end
section
namespace VI
open PySem
section
variable {a b c e : EF} {r : AF} {ρ : Env} {m : Mem} {Q : D → Mem → Prop} {d : D} {ds : List D}
theorem w_popAt (h : W (a ρ m) fun x m1 => ∃ c ds0, x = .cell c ∧ m1[c]? = some (.lst ds0) ∧ W (e ρ m1) fun y m2 => ∃ i ds k d, y = .int i ∧ m2[c]? = some (.lst ds) ∧ L2.ixN ds.length i = some k ∧ ds[k]? = some d ∧ (0 ≤ i ∧ i < 4611686018427387904) ∧ Q d (m2.set c (.lst (ds.eraseIdx k)))) : W (ePopAt a e ρ m) Q := by
  obtain ⟨x, m1, e1, c, ds0, rfl, h0, y, m2, e2, i, ds, k, d, rfl, h1, h2, h3, h4, q⟩ := h
  exact ⟨_, _, by unfold ePopAt; rw [e1]; dsimp only; rw [h0]; dsimp only; rw [e2]; dsimp only; rw [h1]; dsimp only; rw [h2]; dsimp only; rw [h3]; dsimp only; rw [if_pos h4], q⟩
theorem q_slC {k : Nat} {lo hi : Option Int} (h : m[k]? = some (.lst ds)) (q : Q (.lst (cutD ds lo hi)) m) : opQ (slD m (.cell k) lo hi) Q m := ⟨_, by unfold slD; dsimp only; rw [h], q⟩
end
end VI
end
section
namespace VI
open PySem
section
variable {a b c e : EF} {r : AF} {ρ : Env} {m : Mem} {Q : D → Mem → Prop} {QB : Fl → Mem → Prop} {d : D} {ds : List D} {n f : Str}
theorem w_make {g : FD} (h : W (r ρ m) fun xs m1 => W (g (.cell m1.length :: xs) (m1 ++ [.ins n []])) fun v m2 => v = .non ∧ Q (.cell m1.length) m2) : W (eMake n g r ρ m) Q := by
  obtain ⟨xs, m1, e1, v, m2, e2, rfl, q⟩ := h
  exact ⟨_, m2, by unfold eMake; rw [e1]; dsimp only; rw [e2], q⟩
theorem w_fld (h : W (a ρ m) fun x m1 => ∃ i fs d, x = .cell i ∧ m1[i]? = some (.ins n fs) ∧ fs.lookup f = some d ∧ Q d m1) : W (eFld n f a ρ m) Q := by
  obtain ⟨x, m1, e1, i, fs, d, rfl, h1, h2, q⟩ := h
  exact ⟨d, m1, by unfold eFld; rw [e1]; dsimp only; rw [h1]; dsimp only; rw [if_pos rfl, h2], q⟩
theorem w_attr (h : W (e ρ m) fun d m1 => W (a ρ m1) fun x m2 => ∃ i fs, x = .cell i ∧ m2[i]? = some (.ins n fs) ∧ fs.length < 1000 ∧ QB (.nx ρ) (m2.set i (.ins n (putFD f d fs)))) : W (bAttr n f a e ρ m) QB := by
  obtain ⟨d, m1, e1, x, m2, e2, i, fs, rfl, h1, h2, q⟩ := h
  exact ⟨_, _, by unfold bAttr; rw [e1]; dsimp only; rw [e2]; dsimp only; rw [h1]; dsimp only; rw [if_pos ⟨rfl, h2⟩], q⟩
theorem w_minD (h : W (a ρ m) fun x m1 => W (b ρ m1) fun d m2 => ∃ ns : List Int, lstD m2 x = some (ns.map D.int) ∧ (ns = [] → Q d m2) ∧ ∀ n r, ns = n :: r → Q (.int (minL n r)) m2) : W (eMinD a b ρ m) Q := by
  obtain ⟨x, m1, e1, d, m2, e2, ns, h1, h2, h3⟩ := h
  cases ns with
  | nil => exact ⟨d, m2, by unfold eMinD; rw [e1]; dsimp only; rw [e2]; dsimp only; rw [h1]; dsimp only; rw [toInts_of], h2 rfl⟩
  | cons n r => exact ⟨_, m2, by unfold eMinD; rw [e1]; dsimp only; rw [e2]; dsimp only; rw [h1]; dsimp only; rw [toInts_of], h3 n r rfl⟩
theorem w_notT (h : W (a ρ m) fun d m1 => ∃ k, truD m1 d = some k ∧ Q (.bl (!k)) m1) : W (eNotT a ρ m) Q := by
  obtain ⟨d, m1, e1, k, h1, q⟩ := h
  exact ⟨_, m1, by unfold eNotT; rw [e1]; dsimp only; rw [h1], q⟩
theorem w_addC (h : W (a ρ m) fun x m1 => W (b ρ m1) fun y m2 => ∃ ds es, lstD m2 x = some ds ∧ lstD m2 y = some es ∧ ds.length + es.length ≤ 16777216 ∧ Q (.cell m2.length) (m2 ++ [.lst (ds ++ es)])) : W (eAddC a b ρ m) Q := by
  obtain ⟨x, m1, e1, y, m2, e2, ds, es, h1, h2, h3, q⟩ := h
  exact ⟨_, _, by unfold eAddC; rw [e1]; dsimp only; rw [e2]; dsimp only; rw [h1, h2]; dsimp only; rw [if_pos h3], q⟩
theorem w_frzLl (h : W (a ρ m) fun x m1 => ∃ ds, x = .lst ds ∧ Q (.lst ds) m1) : W (eFrzL a ρ m) Q := by
  obtain ⟨x, m1, e1, ds, rfl, q⟩ := h
  exact ⟨_, m1, by unfold eFrzL; rw [e1], q⟩
theorem w_frzLc (h : W (a ρ m) fun x m1 => ∃ c ds, x = .cell c ∧ m1[c]? = some (.lst ds) ∧ Q (.lst ds) (m1.set c .dead)) : W (eFrzL a ρ m) Q := by
  obtain ⟨x, m1, e1, c, ds, rfl, h1, q⟩ := h
  exact ⟨_, _, by unfold eFrzL; rw [e1]; dsimp only; rw [h1], q⟩
end
end VI
end
section
namespace VI
open PySem
section
variable {a b c e : EF} {r : AF} {ρ : Env} {m : Mem} {Q : D → Mem → Prop} {QB : Fl → Mem → Prop} {d : D} {ds : List D}
theorem w_vals {j ik : Nat} {own : List Nat} {c : Nat} {kvs : List (L2.Key × D)} (h1 : ρ[j]? = some (some (.cell c))) (h2 : m[c]? = some (.dct kvs)) (h3 : ik < ρ.length ∧ ik ≠ j ∧ j ∉ own ∧ kvs.length ≤ 16777215) (h4 : valsD kvs kvs = some ds) (q : Q (.lst ds) m) : W (eVals j ik own ρ m) Q :=
  ⟨_, m, by unfold eVals; rw [h1]; dsimp only; rw [h2]; dsimp only; rw [if_pos h3, h4], q⟩
theorem q_minL {i : Int} {r : List Int} {ds : List D} (hd : ds = (i :: r).map D.int) (q : Q (.int (minL i r)) m) : opQ (bMinL m [.lst ds]) Q m := ⟨_, by
  subst hd
  unfold bMinL lstD
  dsimp only
  rw [toInts_of], q⟩
theorem w_dIx (h : W (a ρ m) fun x m1 => ∃ c kv0, x = .cell c ∧ m1[c]? = some (.dct kv0) ∧ W (b ρ m1) fun y m2 => ∃ k kvs d, toKey y = some k ∧ m2[c]? = some (.dct kvs) ∧ valD kvs k = some d ∧ Q d m2) : W (eDIx a b ρ m) Q := by
  obtain ⟨x, m1, e1, c, kv0, rfl, h0, y, m2, e2, k, kvs, d, h1, h2, h3, q⟩ := h
  exact ⟨d, m2, by unfold eDIx; rw [e1]; dsimp only; rw [h0]; dsimp only; rw [e2]; dsimp only; rw [h1]; dsimp only; rw [h2]; dsimp only; rw [h3], q⟩
theorem w_dnotin (h : W (a ρ m) fun x m1 => ∃ k, toKey x = some k ∧ W (b ρ m1) fun y m2 => ∃ c kvs, y = .cell c ∧ m2[c]? = some (.dct kvs) ∧ Q (.bl (!(valD kvs k).isSome)) m2) : W (eDNotIn a b ρ m) Q := by
  obtain ⟨x, m1, e1, k, h1, y, m2, e2, c, kvs, rfl, h2, q⟩ := h
  exact ⟨_, m2, by unfold eDNotIn; rw [e1]; dsimp only; rw [h1]; dsimp only; rw [e2]; dsimp only; rw [h2], q⟩
end
end VI
end
section
namespace VI
open PySem
theorem glueL_nil : ∀ ss : List (List Nat), PySem.StrLaws.glueL [] (ss.map S) = ss.flatten
  | [] => rfl
  | s :: r => by
    show [] ++ ((S s).cps.toList ++ PySem.StrLaws.glueL [] (r.map S)) = _
    rw [glueL_nil r, S_tl, List.nil_append, List.flatten_cons]
theorem joinD_nil (ss : List (List Nat)) : joinD [] ss = ss.flatten := by
  unfold joinD Txt.join
  cases ss with
  | nil => rfl
  | cons s r =>
    show (Builtin.Str.glued (S []) (S s :: r.map S)).cps.toList = _
    rw [PySem.StrLaws.glued_list]
    show (S s).cps.toList ++ PySem.StrLaws.glueL (S []).cps.toList (r.map S) = _
    rw [S_tl, S_tl, glueL_nil, List.flatten_cons]
theorem subAt_S (s t : List Nat) (i : Nat) : Builtin.Str.subAt (S s) (S t) i = decide ((s.drop i).take t.length = t) := by
  unfold Builtin.Str.subAt
  have e : ((S s).cps.extract i (i + (S t).length) == (S t).cps) = decide ((S s).cps.extract i (i + (S t).length) = (S t).cps) := by
    rw [Bool.eq_iff_iff, beq_iff_eq, decide_eq_true_iff]
  rw [e]
  apply decide_eq_decide.mpr
  rw [← Array.toList_inj, Array.toList_extract, S_tl, S_tl, S_len]
  rw [List.extract_eq_drop_take]
  have : i + t.length - i = t.length := by omega
  rw [this]
theorem startsD_eq (s t : List Nat) : startsD s t = decide (s.take t.length = t) := by
  unfold startsD Txt.startswith
  rw [subAt_S, S_len, S_len, List.drop_zero]
  by_cases h : s.take t.length = t
  · have hl : t.length ≤ s.length := by
      have := congrArg List.length h
      rw [List.length_take] at this
      omega
    rw [decide_eq_true h, Bool.and_true]
    exact decide_eq_true (by omega)
  · rw [decide_eq_false h, Bool.and_false]
theorem startsD_one (s : List Nat) (c : Nat) : startsD s [c] = decide (s.head? = some c) := by
  rw [startsD_eq]
  apply decide_eq_decide.mpr
  cases s with
  | nil => simp
  | cons x r => simp
end VI
end
section
namespace VI
open PySem PySem.Spec PyProof.Rows L2
section
variable {m : Mem} {Q : D → Mem → Prop} {s t : List Nat}
/-- a text at a place, of any signs -/
theorem q_starts3G {i : Nat} (ht : t ≠ []) (q : Q (.bl (decide ((s.drop i).take t.length = t))) m) : opQ (sStarts3 s m [.str t, .int (i : Int)]) Q m := by
  refine ⟨_, rfl, ?_⟩
  have e : Txt.startswith3 (S s) (S t) (i : Int) = decide ((s.drop i).take t.length = t) := by
    unfold Txt.startswith3
    rw [fromIx, subAt_S, S_len, S_len]
    by_cases h : (s.drop i).take t.length = t
    · have hl : i + t.length ≤ s.length := by
        have h1 := congrArg List.length h
        rw [List.length_take, List.length_drop] at h1
        have h2 := List.length_pos_iff.mpr ht
        omega
      rw [decide_eq_true h, Bool.and_true]
      exact decide_eq_true hl
    · rw [decide_eq_false h, Bool.and_false]
  rw [e]
  exact q
theorem toInts_D (ns : List Int) : toInts (ns.map D.int) = some ns := toInts_of ns
theorem q_leT {xs ys : List D} {is js : List Int} (h1 : xs = is.map D.int) (h2 : ys = js.map D.int) (h3 : is.length = js.length) (q : Q (.bl (lexLeD is js)) m) : opQ (oLeT m (.tup xs) (.tup ys)) Q m := ⟨_, by
  subst h1
  subst h2
  unfold oLeT
  dsimp only
  rw [toInts_of, toInts_of]
  dsimp only
  rw [if_pos h3], q⟩
/-- how often a sign stands in a text -/
theorem cnt_count (c : Nat) : ∀ l : List Nat, PyProof.Rows.cnt c l = (l.count c : Nat)
  | [] => rfl
  | n :: r => by
    rw [PyProof.Rows.cnt_cons, cnt_count c r, List.count_cons]
    by_cases h : n = c
    · rw [if_pos h, if_pos (beq_iff_eq.mpr h)]; omega
    · rw [if_neg h, if_neg (fun g => h (beq_iff_eq.mp g))]; omega
theorem q_count {c : Nat} (q : Q (.int ((s.count c : Nat) : Int)) m) : opQ (sCount s m [.str [c]]) Q m := by
  refine ⟨_, rfl, ?_⟩
  have e : Txt.count (S s) (S [c]) = ((s.count c : Nat) : Int) := by
    rw [S_one, PyProof.Rows.count_cnt, S_tl, cnt_count]
  rw [e]
  exact q
end
end VI
end
section
namespace VI
open PySem PySem.Spec PyProof.Rows L2
/-! a text parted by ' > ' -/
def sepG : List Nat := [32, 62, 32]
def joinG : List (List Nat) → List Nat
  | [] => []
  | [p] => p
  | p :: q :: r => p ++ (sepG ++ joinG (q :: r))
theorem at_iff (s : List Nat) (k : Nat) : StrLaws.At (S s) (S sepG) (S s).length k ↔ (s.drop k).take 3 = sepG := by
  unfold StrLaws.At
  rw [subAt_S, decide_eq_true_iff, S_len, S_len]
  constructor
  · exact fun h => h.2
  · intro h
    refine ⟨?_, h⟩
    have h1 := congrArg List.length h
    rw [List.length_take, List.length_drop] at h1
    have : sepG.length = 3 := rfl
    omega
theorem at_gt {s : List Nat} {k : Nat} (h : (s.drop k).take 3 = sepG) : s[k + 1]? = some 62 := by
  have h1 : ((s.drop k).take 3)[1]? = some 62 := by rw [h]; rfl
  rw [List.getElem?_take_of_lt (by omega), List.getElem?_drop] at h1
  exact h1
theorem parts_eq : ∀ (ps : List (List Nat)) (s : List Nat) (a f : Nat) (cuts : List Nat), ps ≠ [] → (∀ p ∈ ps, 62 ∉ p) → s.drop a = joinG ps →
    StrLaws.ChainG (S s) (S sepG) (S s).length a cuts f → (∀ k, f ≤ k → ¬ StrLaws.At (S s) (S sepG) (S s).length k) → (StrLaws.partsFrom (S s) 3 a cuts).map (fun x => x.cps.toList) = ps
  | [], _, _, _, _, h, _, _, _, _ => absurd rfl h
  | [p], s, a, f, cuts, _, hp, hs, hc, hn => by
    have hp : 62 ∉ p := hp p List.mem_cons_self
    have hs : s.drop a = p := hs
    cases cuts with
    | nil =>
      show [(Builtin.Str.strSub (S s) a (S s).length).cps.toList] = [p]
      rw [StrLaws.strSub_toList, S_tl, S_len, List.take_of_length_le (by rw [List.length_drop]; exact Nat.le_refl _), hs]
    | cons c r =>
      obtain ⟨h1, h2, _⟩ := hc
      have h3 := at_gt ((at_iff s c).mp h2)
      have h4 : (s.drop a)[c + 1 - a]? = some 62 := by rw [List.getElem?_drop, show a + (c + 1 - a) = c + 1 by omega]; exact h3
      rw [hs] at h4
      exact absurd (List.mem_of_getElem? h4) hp
  | p :: q :: r, s, a, f, cuts, _, hp, hs, hc, hn => by
    have hpp : 62 ∉ p := hp p List.mem_cons_self
    have hs : s.drop a = p ++ (sepG ++ joinG (q :: r)) := hs
    have hd : s.drop (a + p.length) = sepG ++ joinG (q :: r) := by rw [← List.drop_drop, hs, List.drop_left]
    have hA : (s.drop (a + p.length)).take 3 = sepG := by rw [hd]; rfl
    have hA2 := (at_iff s _).mpr hA
    cases cuts with
    | nil =>
      have : f = a := hc
      exact absurd hA2 (hn _ (by omega))
    | cons c t =>
      obtain ⟨h1, h2, h3, h4⟩ := hc
      have hc1 : c ≤ a + p.length := by
        rcases Nat.lt_or_ge (a + p.length) c with g | g
        · exact absurd hA2 (h3 _ (by omega) g)
        · exact g
      have hc2 : a + p.length ≤ c := by
        rcases Nat.lt_or_ge c (a + p.length) with g | g
        · exfalso
          have e3 := at_gt ((at_iff s c).mp h2)
          have e4 : (s.drop a)[c + 1 - a]? = some 62 := by rw [List.getElem?_drop, show a + (c + 1 - a) = c + 1 by omega]; exact e3
          rw [hs] at e4
          rcases Nat.lt_or_ge (c + 1 - a) p.length with g2 | g2
          · rw [List.getElem?_append_left g2] at e4
            exact hpp (List.mem_of_getElem? e4)
          · rw [List.getElem?_append_right g2, show c + 1 - a - p.length = 0 by omega] at e4
            have e5 : some (32 : Nat) = some 62 := e4
            cases e5
        · exact g
      have hce : c = a + p.length := by omega
      subst hce
      have ih := parts_eq (q :: r) s (a + p.length + 3) f t (by simp) (fun x hx => hp x (List.mem_cons_of_mem _ hx)) (by rw [← List.drop_drop, hd]; rfl) ((by have e := S_len sepG; rw [e] at h4; exact h4)) hn
      show (Builtin.Str.strSub (S s) a (a + p.length)).cps.toList :: (StrLaws.partsFrom (S s) 3 (a + p.length + 3) t).map (fun x => x.cps.toList) = _
      rw [ih, StrLaws.strSub_toList, S_tl, hs, show a + p.length - a = p.length by omega, List.take_left]
theorem not_kind {x : Str} (h : Builtin.Str.strKind x < Builtin.Str.strKind (S sepG)) : False := by
  have e : Builtin.Str.strKind (S sepG) = Builtin.Str.strKind (S []) := by decide +kernel
  rw [e] at h
  have e2 : Builtin.Str.strKind (S []) ≤ Builtin.Str.strKind x := by
    have e0 : Builtin.Str.strKind (S []) = 1 := by decide +kernel
    rw [e0]
    unfold Builtin.Str.strKind
    split
    · decide
    · split <;> decide
  omega
theorem split_G {ps : List (List Nat)} (h : ps ≠ []) (hp : ∀ p ∈ ps, 62 ∉ p) : splitL (joinG ps) sepG = ps := by
  unfold splitL
  have hw : 1 ≤ (S sepG).length := by rw [S_len]; decide
  obtain ⟨f, hc, hn⟩ := StrLaws.occ_tight (S (joinG ps)) (S sepG) hw
  have key := parts_eq ps (joinG ps) 0 f _ h hp rfl hc hn
  unfold Txt.split
  split
  · rename_i hg
    cases ps with
    | nil => exact absurd rfl h
    | cons p t =>
      cases t with
      | nil => show [(S p).cps.toList] = [p]; rw [S_tl]
      | cons q r =>
        exfalso
        rw [Bool.or_eq_true, decide_eq_true_iff, decide_eq_true_iff] at hg
        rcases hg with g | g
        · rw [S_len, S_len] at g
          have e : (joinG (p :: q :: r)).length = p.length + (sepG.length + (joinG (q :: r)).length) := by
            show (p ++ (sepG ++ joinG (q :: r))).length = _
            rw [List.length_append, List.length_append]
          omega
        · exact not_kind g
  · split
    · rename_i hg
      rw [List.isEmpty_iff.mp hg] at key
      have key : [(Builtin.Str.strSub (S (joinG ps)) 0 (S (joinG ps)).length).cps.toList] = ps := key
      rw [StrLaws.sub_whole] at key
      exact key
    · rw [StrLaws.partsBetween_eq, S_len]
      exact key
end VI
end
section
namespace VI
open PySem PySem.Spec PyProof.Rows L2
/-! what several laws want: texts in lists of texts, pigeons, signs joined, cuts, lists picked from -/
theorem S_eqI {s t : List Nat} : VI.S s = VI.S t ↔ s = t := ⟨VI.S_inj, fun e => by rw [e]⟩
theorem eqV_S (s t : List Nat) : L2.eqV (.str (VI.S s)) (.str (VI.S t)) = decide (s = t) := by
  show decide _ = decide _
  exact decide_eq_decide.mpr (by rw [S_eqI])
theorem toVs_strs : ∀ ws : List (List Nat), toVs (ws.map D.str) = some (ws.map fun w => .str (VI.S w))
  | [] => rfl
  | w :: r => by show toVs (.str w :: r.map D.str) = _; unfold toVs; rw [toVs_strs r]; rfl
theorem inFl_strs (w : List Nat) (ws : List (List Nat)) : inFl (.str w) (ws.map D.str) = some (decide (w ∈ ws)) := by
  unfold inFl
  rw [toVs_strs]
  show some (L2.inV _ _) = _
  congr 1
  unfold L2.inV
  induction ws with
  | nil => rfl
  | cons x r ih =>
    rw [List.map_cons, List.any_cons, ih, eqV_S, ← Bool.decide_or]
    exact decide_eq_decide.mpr (by rw [List.mem_cons]; constructor <;> (intro h; rcases h with h | h <;> simp [h]))
section
variable {w : List Nat} {ws : List (List Nat)} {ds : List D} {m : Mem} {Q : D → Mem → Prop} {i : Int}
theorem inB_tup : inB m (.str w) (.tup (ws.map D.str)) = some (decide (w ∈ ws)) := by
  unfold inB
  split <;> first | (rename_i e; cases e) | skip
  all_goals first | (rename_i e1 e2; cases e2) | skip
  all_goals first | exact inFl_strs w ws | skip
  rename_i a1 a2 a3 a4 a5 a6 a7 a8 a9 a10
  exact (a6 _ rfl).elim
theorem inB_lst : inB m (.str w) (.lst (ws.map D.str)) = some (decide (w ∈ ws)) := by
  unfold inB
  split <;> first | (rename_i e; cases e) | skip
  all_goals first | (rename_i e1 e2; cases e2) | skip
  all_goals first | exact inFl_strs w ws | skip
  rename_i a1 a2 a3 a4 a5 a6 a7 a8 a9 a10
  exact (a5 _ rfl).elim
theorem q_inT (ws : List (List Nat)) (hd : ds = ws.map D.str) (q : Q (.bl (decide (w ∈ ws))) m) : opQ (oIn m (.str w) (.tup ds)) Q m := ⟨_, by subst hd; unfold oIn; rw [inB_tup], q⟩
theorem q_ninT (ws : List (List Nat)) (hd : ds = ws.map D.str) (q : Q (.bl (!decide (w ∈ ws))) m) : opQ (oNotIn m (.str w) (.tup ds)) Q m := ⟨_, by subst hd; unfold oNotIn; rw [inB_tup], q⟩
theorem q_inL (ws : List (List Nat)) (hd : ds = ws.map D.str) (q : Q (.bl (decide (w ∈ ws))) m) : opQ (oIn m (.str w) (.lst ds)) Q m := ⟨_, by subst hd; unfold oIn; rw [inB_lst], q⟩
theorem q_ninL (ws : List (List Nat)) (hd : ds = ws.map D.str) (q : Q (.bl (!decide (w ∈ ws))) m) : opQ (oNotIn m (.str w) (.lst ds)) Q m := ⟨_, by subst hd; unfold oNotIn; rw [inB_lst], q⟩
theorem inB_cell {f : Nat} (h : m[f]? = some (.lst (ws.map D.str))) : inB m (.str w) (.cell f) = some (decide (w ∈ ws)) := by
  unfold inB
  split <;> first | (rename_i e; cases e) | skip
  all_goals first | (rename_i e1 e2; cases e2) | skip
  all_goals first | (rw [h]; exact inFl_strs w ws) | skip
  rename_i a b c d e g
  exact (d f rfl).elim
theorem q_inCell {f : Nat} (h : m[f]? = some (.lst (ws.map D.str))) (q : Q (.bl (decide (w ∈ ws))) m) : opQ (oIn m (.str w) (.cell f)) Q m :=
  ⟨_, by unfold oIn; rw [inB_cell h], q⟩
theorem pigeon {α : Type} [DecidableEq α] (f : Nat → α) : ∀ (n : Nat) (l : List α), (∀ i j, i < n → j < n → f i = f j → i = j) → (∀ i, i < n → f i ∈ l) → n ≤ l.length
  | 0, _, _, _ => Nat.zero_le _
  | n + 1, l, inj, hm => by
    have h := pigeon f n (l.erase (f n)) (fun i j hi hj => inj i j (by omega) (by omega)) fun i hi => (List.mem_erase_of_ne (fun e => by have := inj i n (by omega) (by omega) e; omega)).mpr (hm i (by omega))
    have hn := hm n (by omega)
    rw [List.length_erase_of_mem hn] at h
    have := List.length_pos_of_mem hn
    omega
theorem flat_one : ∀ cs : List Nat, (cs.map fun c => [c]).flatten = cs
  | [] => rfl
  | c :: r => by rw [List.map_cons, List.flatten_cons, flat_one r]; rfl
theorem sum_one : ∀ cs : List Nat, ((cs.map fun c => [c]).map (·.length)).sum = cs.length
  | [] => rfl
  | c :: r => by rw [List.map_cons, List.map_cons, List.sum_cons, sum_one r, List.length_cons, Nat.add_comm]; rfl
theorem q_join1 {cs : List Nat} (hl : cs.length ≤ 16777216) (q : Q (.str cs) m) : opQ (sJoin [] m [.lst (cs.map fun c => D.str [c])]) Q m := by
  refine q_joinL (ss := cs.map fun c => [c]) (by rw [List.map_map]; rfl) ?_ ?_
  · rw [sum_one]
    show cs.length + _ * 0 ≤ _
    omega
  · rw [joinD_nil, flat_one]
    exact q
/-- texts joined by nothing -/
theorem q_join0 {ss : List (List Nat)} (hd : ds = ss.map D.str) (hl : ss.flatten.length ≤ 16777216) (q : Q (.str ss.flatten) m) : opQ (sJoin [] m [.lst ds]) Q m := by
  refine q_joinL hd ?_ ?_
  · show _ + _ * 0 ≤ _
    rw [List.length_flatten] at hl
    omega
  · rw [joinD_nil]
    exact q
/-- one of a list, whichever -/
theorem q_pickL (h0 : 0 ≤ i) (h1 : i < ds.length) (q : ∀ d ∈ ds, Q d m) : opQ (oIx m (.lst ds) (.int i)) Q m := by
  obtain ⟨v, hv, hm⟩ := atI_in h0 h1
  exact q_ixL hv (q v hm)
theorem q_pickS {s : List Nat} (hs : s.length ≤ 16777216) (h0 : 0 ≤ i) (h1 : i < s.length) (q : ∀ c ∈ s, Q (.str [c]) m) : opQ (oIx m (.str s) (.int i)) Q m := by
  obtain ⟨v, hv, hm⟩ := atI_in h0 h1
  exact q_ixS hs hv (q v hm)
end
theorem cut_to {α : Type} {w : List α} {k : Int} (h : 0 ≤ k) : cutD w none (some k) = w.take k.toNat := by
  unfold cutD
  rw [HT.sIx_none]
  have e : HT.sIx w.length w.length (some k) = min k.toNat w.length := by
    unfold HT.sIx
    dsimp only
    rw [if_neg (show ¬ k < 0 by omega)]
  rw [e, List.drop_zero, Nat.sub_zero, List.take_eq_take_iff]
  omega
theorem cut_from {α : Type} {w : List α} {k : Int} (h : 0 ≤ k) : cutD w (some k) none = w.drop k.toNat := by
  unfold cutD
  rw [HT.sIx_none]
  have e : HT.sIx w.length 0 (some k) = min k.toNat w.length := by
    unfold HT.sIx
    dsimp only
    rw [if_neg (show ¬ k < 0 by omega)]
  rw [e, List.take_of_length_le (by rw [List.length_drop]; exact Nat.le_refl _)]
  by_cases hk : k.toNat ≤ w.length
  · rw [Nat.min_eq_left hk]
  · rw [Nat.min_eq_right (by omega), List.drop_eq_nil_of_le (Nat.le_refl _), List.drop_eq_nil_of_le (by omega)]
theorem cut_mid {α : Type} {w : List α} {i j : Nat} (h : i ≤ j) : cutD w (some (i : Int)) (some (j : Int)) = (w.drop i).take (j - i) := by
  unfold cutD
  rw [HT.sIx_nat, HT.sIx_nat]
  by_cases h1 : i ≤ w.length
  · rw [Nat.min_eq_left h1]
    rw [List.take_eq_take_iff, List.length_drop]
    omega
  · rw [List.drop_eq_nil_of_le (as := w) (i := min i w.length) (by omega), List.drop_eq_nil_of_le (as := w) (i := i) (by omega), List.take_nil, List.take_nil]
theorem bMin2_q {i j : Int} {m : Mem} {Q : D → Mem → Prop} (q : Q (.int (if j < i then j else i)) m) : opQ (bMin2 m [.int i, .int j]) Q m := ⟨_, rfl, q⟩
end VI
namespace VI
theorem q_addCL {i : Nat} {s t : List D} {m : Mem} {Q : D → Mem → Prop} (hi : m[i]? = some (.lst s)) (h : s.length + t.length ≤ 16777216) (q : Q (.lst (s ++ t)) m) : opQ (oAdd m (.cell i) (.lst t)) Q m := ⟨_, by unfold oAdd; dsimp only; rw [hi]; dsimp only; rw [if_pos h], q⟩
end VI
namespace VI
/-- one of a list in memory, whichever -/
theorem q_pickC {k : Nat} {i : Int} {ds : List D} {m : Mem} {Q : D → Mem → Prop} (hm : m[k]? = some (.lst ds)) (h0 : 0 ≤ i) (h1 : i < ds.length) (q : ∀ d ∈ ds, Q d m) : opQ (oIx m (.cell k) (.int i)) Q m := by
  obtain ⟨v, hv, hmm⟩ := atI_in h0 h1
  exact q_ixC hm hv (q v hmm)
end VI
namespace VI
/-- either text, whichever -/
theorem ifq_var2 {v : Bool} {i j : Nat} {ρ : Env} {m : Mem} {K : D → Mem → Prop} {s t : List Nat} (h1 : ρ[i]? = some (some (.str s))) (h2 : ρ[j]? = some (some (.str t))) (h : ∀ x : List Nat, (x = s ∨ x = t) → K (.str x) m) : ifQ v (W (eVar i ρ m) K) (W (eVar j ρ m) K) :=
  ⟨fun _ => w_var h1 (h s (.inl rfl)), fun _ => w_var h2 (h t (.inr rfl))⟩
end VI
end
section
namespace VI
open PySem PySem.Spec PyProof.Rows L2
/-! where a text first stands in another one -/
def findL (t : List Nat) : List Nat → Option Nat
  | [] => none
  | c :: r => if (c :: r).take t.length = t then some 0 else (findL t r).map (· + 1)
abbrev AtL (s t : List Nat) (k : Nat) : Prop := (s.drop k).take t.length = t
theorem at_L {s t : List Nat} (ht : t ≠ []) (k : Nat) : StrLaws.At (S s) (S t) (S s).length k ↔ AtL s t k := by
  unfold StrLaws.At
  rw [subAt_S, decide_eq_true_iff, S_len, S_len]
  constructor
  · exact fun h => h.2
  · intro h
    refine ⟨?_, h⟩
    have h1 := congrArg List.length h
    rw [List.length_take, List.length_drop] at h1
    have := List.length_pos_iff.mpr ht
    omega
theorem atL_lt {s t : List Nat} (ht : t ≠ []) {k : Nat} (h : AtL s t k) : k + t.length ≤ s.length := by
  have h1 := congrArg List.length h
  rw [List.length_take, List.length_drop] at h1
  have := List.length_pos_iff.mpr ht
  omega
theorem find_none {t : List Nat} (ht : t ≠ []) : ∀ {s : List Nat}, (∀ k, ¬ AtL s t k) → findL t s = none
  | [], _ => rfl
  | c :: r, h => by
    unfold findL
    rw [if_neg (show ¬ (c :: r).take t.length = t from h 0), find_none ht (s := r) fun k => h (k + 1)]
    rfl
theorem find_some {t : List Nat} (ht : t ≠ []) : ∀ {s : List Nat} {i : Nat}, AtL s t i → (∀ k, k < i → ¬ AtL s t k) → findL t s = some i
  | [], i, h, _ => by
    have := atL_lt ht h
    have h2 := List.length_pos_iff.mpr ht
    rw [List.length_nil] at this
    omega
  | c :: r, 0, h, _ => by
    unfold findL
    rw [if_pos (show (c :: r).take t.length = t from h)]
  | c :: r, i + 1, h, g => by
    unfold findL
    rw [if_neg (show ¬ (c :: r).take t.length = t from g 0 (by omega)), find_some ht (s := r) (i := i) h fun k hk => g (k + 1) (by omega)]
    rfl
theorem findL_some {t : List Nat} : ∀ {s : List Nat} {i : Nat}, findL t s = some i → AtL s t i ∧ i < s.length ∧ ∀ k, k < i → ¬ AtL s t k
  | [], i, h => by cases h
  | c :: r, i, h => by
    unfold findL at h
    split at h
    · rename_i h0
      cases h
      exact ⟨h0, by simp, fun k hk => absurd hk (Nat.not_lt_zero _)⟩
    · rename_i h0
      cases hr : findL t r with
      | none => rw [hr] at h; cases h
      | some j =>
        rw [hr] at h
        cases h
        obtain ⟨h1, h2, h3⟩ := findL_some hr
        refine ⟨h1, by rw [List.length_cons]; show j + 1 < _; omega, fun k hk => ?_⟩
        cases k with
        | zero => exact h0
        | succ k =>
          have hk2 : k + 1 < j + 1 := hk
          exact h3 k (by omega)
theorem findL_none {t : List Nat} (ht : t ≠ []) : ∀ {s : List Nat}, findL t s = none → ∀ k, ¬ AtL s t k
  | [], _, k, h => by
    have := atL_lt ht h
    have h2 := List.length_pos_iff.mpr ht
    rw [List.length_nil] at this
    omega
  | c :: r, h, k, g => by
    unfold findL at h
    split at h
    · cases h
    · rename_i h0
      cases hr : findL t r with
      | some j => rw [hr] at h; cases h
      | none =>
        cases k with
        | zero => exact h0 g
        | succ k => exact findL_none ht hr k g
theorem part_L {s t : List Nat} (ht : t ≠ []) : partD s t = match findL t s with | none => [s, [], []] | some i => [s.take i, t, s.drop (i + t.length)] := by
  unfold partD
  rcases partition_whole (S s) (S t) with ⟨hp, hn⟩ | ⟨i, hp, hi, hn⟩
  · rw [find_none ht fun k hk => hn k ((at_L ht k).mpr hk), hp]
    show [(S s).cps.toList, [], []] = _
    rw [S_tl]
  · rw [find_some ht ((at_L ht i).mp hi) fun k hk hA => hn k hk ((at_L ht k).mpr hA), hp]
    show [(Builtin.Str.strSub (S s) 0 i).cps.toList, (S t).cps.toList, (Builtin.Str.strSub (S s) (i + (S t).length) (S s).length).cps.toList] = [s.take i, t, s.drop (i + t.length)]
    rw [StrLaws.strSub_toList, StrLaws.strSub_toList, S_tl, S_tl, S_len, S_len, List.drop_zero, Nat.sub_zero]
    rw [List.take_of_length_le (l := s.drop (i + t.length)) (by rw [List.length_drop]; exact Nat.le_refl _)]
theorem find_L {s t : List Nat} (ht : t ≠ []) : Txt.find (S s) (S t) = match findL t s with | none => -1 | some i => (i : Int) := by
  rcases find_whole (S s) (S t) with ⟨hp, hn⟩ | ⟨i, hp, hi, hn⟩
  · rw [find_none ht fun k hk => hn k ((at_L ht k).mpr hk), hp]
  · rw [find_some ht ((at_L ht i).mp hi) fun k hk hA => hn k hk ((at_L ht k).mpr hA), hp]
def endsL (s t : List Nat) : Bool := decide (t.length ≤ s.length ∧ s.drop (s.length - t.length) = t)
theorem ends_S (s t : List Nat) : (decide (0 + (S t).length ≤ (S s).length) && Builtin.Str.subAt (S s) (S t) ((S s).length - (S t).length)) = endsL s t := by
  unfold endsL
  rw [subAt_S, S_len, S_len, Nat.zero_add, ← Bool.decide_and]
  apply decide_eq_decide.mpr
  constructor
  · rintro ⟨h1, h2⟩
    rw [List.take_of_length_le (by rw [List.length_drop]; omega)] at h2
    exact ⟨h1, h2⟩
  · rintro ⟨h1, h2⟩
    refine ⟨h1, ?_⟩
    rw [List.take_of_length_le (by rw [List.length_drop]; omega)]
    exact h2
theorem endsD_eq (s t : List Nat) : endsD s t = endsL s t := by
  rw [← ends_S]
  unfold endsD Txt.endswith
  cases decide (0 + (S t).length ≤ (S s).length) <;> rfl
theorem removesuffix_S (s t : List Nat) : (Txt.removesuffix (S s) (S t)).cps.toList = if endsL s t then s.take (s.length - t.length) else s := by
  rw [StrLaws.removesuffix_eq, ends_S]
  cases endsL s t
  · rw [if_neg (by simp), if_neg (by simp), S_tl]
  · rw [if_pos rfl, if_pos rfl]
    show (((S s).cps.toList.drop 0).take ((S s).length - (S t).length - 0)) = _
    rw [S_tl, S_len, S_len, List.drop_zero, Nat.sub_zero]
section
variable {a b e f : EF} {r : AF} {ρ : Env} {m : Mem} {Q : D → Mem → Prop} {s t : List Nat} {fk fx : EF}
theorem q_partition (ht : t ≠ []) (hl : s.length ≤ 1000000) (q : Q (.tup ((match findL t s with | none => [s, [], []] | some i => [s.take i, t, s.drop (i + t.length)]).map D.str)) m) : opQ (sPartition s m [.str t]) Q m := ⟨_, by unfold sPartition; dsimp only; rw [if_pos ⟨ht, hl⟩, part_L ht], q⟩
theorem q_find (ht : t ≠ []) (q : Q (.int (match findL t s with | none => -1 | some i => (i : Int))) m) : opQ (sFind s m [.str t]) Q m := ⟨_, by unfold sFind; dsimp only; rw [find_L ht], q⟩
theorem q_ends (q : Q (.bl (endsL s t)) m) : opQ (s1 (fun s t => .bl (endsD s t)) s m [.str t]) Q m := ⟨_, by unfold s1; dsimp only; rw [endsD_eq], q⟩
theorem q_removesuffix (hl : s.length ≤ 16777216) (q : Q (.str (if endsL s t then s.take (s.length - t.length) else s)) m) : opQ (sRemoveSuffix s m [.str t]) Q m := ⟨_, by unfold sRemoveSuffix; dsimp only; rw [if_pos hl, removesuffix_S], q⟩
theorem q_divW {i j : Int} (h : 0 < j ∧ j < 1267650600228229401496703205376) (q : Q (.int (i / j)) m) : opQ (oDivW m (.int i) (.int j)) Q m := ⟨_, by unfold oDivW; dsimp only; rw [if_pos h], q⟩
theorem w_getK {kvs : List (List Nat × D)} (h : W (fk ρ m) fun x m1 => ∃ z, x = .str z ∧ W (fx ρ m1) fun y m2 => Q ((kvs.lookup z).getD y) m2) : W (eGetK kvs fk fx ρ m) Q := by
  obtain ⟨x, m1, e1, z, rfl, y, m2, e2, q⟩ := h
  exact ⟨_, m2, by unfold eGetK; rw [e1]; dsimp only; rw [e2], q⟩
end
/-- a text without spaces at its ends -/
theorem strip_self {s : List Nat} (hs : s ≠ []) : stripL s [32] = s ↔ (s.head? ≠ some 32 ∧ s.getLast? ≠ some 32) := by
  have hp : ∀ c : Nat, (decide (c ∈ ([32] : List Nat)) = true) ↔ c = 32 := fun c => by simp
  constructor
  · intro h
    have hl := congrArg List.length h
    unfold stripL at hl
    rw [List.length_take, List.length_drop] at hl
    have hpos := List.length_pos_iff.mpr hs
    constructor
    · intro hh
      cases s with
      | nil => cases hh
      | cons c r =>
        cases hh
        rw [List.takeWhile_cons, if_pos (by simp)] at hl
        simp only [List.length_cons] at hl
        omega
    · intro hh
      have h0 : (s.takeWhile fun c => decide (c ∈ ([32] : List Nat))).length = 0 := by omega
      rw [h0, List.drop_zero] at hl
      have h1 : (s.reverse.takeWhile fun c => decide (c ∈ ([32] : List Nat))).length = 0 := by
        have h2 : (s.reverse.takeWhile fun c => decide (c ∈ ([32] : List Nat))).length ≤ s.length := by
          have := (List.takeWhile_sublist (l := s.reverse) (fun c => decide (c ∈ ([32] : List Nat)))).length_le
          rw [List.length_reverse] at this
          exact this
        omega
      rw [← List.head?_reverse] at hh
      cases hr : s.reverse with
      | nil => rw [hr] at hh; cases hh
      | cons c r =>
        rw [hr] at hh h1
        cases hh
        rw [List.takeWhile_cons, if_pos (by simp), List.length_cons] at h1
        omega
  · rintro ⟨h1, h2⟩
    unfold stripL
    have e1 : (s.takeWhile fun c => decide (c ∈ ([32] : List Nat))) = [] := by
      cases s with
      | nil => rfl
      | cons c r =>
        rw [List.takeWhile_cons, if_neg]
        intro g
        exact h1 (by rw [(hp c).mp g]; rfl)
    have e2 : (s.reverse.takeWhile fun c => decide (c ∈ ([32] : List Nat))) = [] := by
      rw [← List.head?_reverse] at h2
      cases hr : s.reverse with
      | nil => rfl
      | cons c r =>
        rw [hr] at h2
        rw [List.takeWhile_cons, if_neg]
        intro g
        exact h2 (by rw [(hp c).mp g]; rfl)
    rw [e1, List.length_nil, List.drop_zero, e2, List.length_nil, Nat.sub_zero, Nat.sub_zero]
    exact List.take_length
end VI
namespace VI
open PySem PySem.Spec PyProof.Rows L2
theorem q_part0 {s t : List Nat} {m : Mem} {Q : D → Mem → Prop} (ht : t ≠ []) (hl : s.length ≤ 1000000) (hf : findL t s = none) (q : Q (.tup [.str s, .str [], .str []]) m) : opQ (sPartition s m [.str t]) Q m := q_partition ht hl (by rw [hf]; exact q)
theorem q_part1 {s t : List Nat} {i : Nat} {m : Mem} {Q : D → Mem → Prop} (ht : t ≠ []) (hl : s.length ≤ 1000000) (hf : findL t s = some i) (q : Q (.tup [.str (s.take i), .str t, .str (s.drop (i + t.length))]) m) : opQ (sPartition s m [.str t]) Q m := q_partition ht hl (by rw [hf]; exact q)
end VI
end
local macro_rules | `(tactic| walk_at "vi.s0") => `(tactic| (first | with_reducible refine VI.w_seq ?_ | with_reducible refine VI.w_set ?_ | with_reducible refine VI.w_ret ?_ | with_reducible refine VI.w_bif ?_ | with_reducible refine VI.w_drop ?_ | with_reducible refine VI.w_op ?_ | with_reducible refine VI.w_un ?_ | with_reducible refine VI.w_blt ?_ | with_reducible refine VI.w_not ?_ | with_reducible refine VI.w_and ?_ | with_reducible refine VI.w_or ?_ | with_reducible refine VI.w_if ?_ | with_reducible refine VI.w_chain ?_ | with_reducible refine VI.w_anil ?_ | with_reducible refine VI.w_acons ?_ | with_reducible refine VI.w_tup ?_ | with_reducible refine VI.w_lst ?_ | with_reducible refine VI.w_cel ?_ | with_reducible refine VI.w_tv ?_ | with_reducible refine VI.w_tnot ?_ | with_reducible refine VI.w_tand ?_ | with_reducible refine VI.w_tor ?_ | with_reducible refine VI.w_bits ?_ | with_reducible refine VI.w_mS ?_ | with_reducible refine VI.w_pno ?_ | with_reducible refine VI.w_pso ?_ | with_reducible refine VI.w_sl ?_ | with_reducible refine VI.w_bnil ?_ | with_reducible refine VI.w_bk ?_ | with_reducible refine VI.w_ct ?_ | with_reducible refine VI.w_retN ?_ | with_reducible refine VI.w_gnil ?_ | with_reducible refine VI.w_gcons ?_ | with_reducible refine VI.w_gtup rfl ?_ | with_reducible refine VI.w_gix ?_ | with_reducible refine VI.w_yes ?_ | with_reducible refine VI.w_dnil ?_ | with_reducible refine VI.w_dcons ?_ | with_reducible refine VI.w_dict ?_ | with_reducible refine VI.w_get2 ?_ | with_reducible refine VI.w_tru ?_ | with_reducible refine VI.w_pop ?_ | with_reducible refine VI.w_ext ?_ | with_reducible refine VI.w_star ?_ | with_reducible refine VI.w_few ?_ | with_reducible refine VI.w_js0 ?_ | with_reducible refine VI.w_js ?_ | with_reducible refine VI.w_fmt ?_ | with_reducible refine VI.w_estr ?_ | with_reducible refine VI.w_rev ?_ | with_reducible refine VI.w_revT ?_ | with_reducible refine VI.w_eqNil ?_ | with_reducible refine VI.w_gdix ?_ | with_reducible refine VI.w_tupItems ?_ | with_reducible refine VI.w_lstC ?_ | with_reducible refine VI.w_par ?_ | with_reducible refine VI.w_extT ?_ | with_reducible refine VI.w_extA ?_ | with_reducible refine VI.w_revIn ?_ | with_reducible refine VI.w_isi2 ?_ | with_reducible refine VI.w_repl ?_ | with_reducible refine VI.w_lenSc ?_ | with_reducible refine VI.w_enum ?_ | with_reducible refine VI.w_words ?_ | with_reducible refine VI.w_neNil ?_ | with_reducible refine VI.w_make ?_ | with_reducible refine VI.w_dIx ?_ | with_reducible refine VI.w_dnotin ?_ | with_reducible refine VI.w_fld ?_ | with_reducible refine VI.w_attr ?_ | with_reducible refine VI.w_notT ?_ | with_reducible refine VI.w_minD ?_ | with_reducible refine VI.w_addC ?_ | with_reducible refine VI.w_listZip ?_ | with_reducible refine VI.w_cnt ?_ | with_reducible refine VI.q_tupL ?_ | with_reducible refine VI.w_app ?_ | with_reducible refine VI.w_it ?_ | with_reducible refine VI.w_c ?_ | with_reducible refine VI.w_var rfl ?_ | with_reducible refine VI.w_name0 ?_ | with_reducible refine VI.w_name1 ?_ | with_reducible refine VI.w_name2 ?_ | with_reducible refine VI.w_name3 ?_ | with_reducible refine VI.w_name4 ?_ | with_reducible refine VI.w_name5 ?_ | with_reducible refine VI.w_name6 ?_ | with_reducible refine VI.w_name7 ?_ | with_reducible refine VI.w_name8 ?_ | with_reducible refine VI.w_name9 ?_ | with_reducible refine VI.w_name10 ?_ | with_reducible refine VI.w_name11 ?_ | with_reducible refine VI.w_name12 ?_ | with_reducible refine VI.w_name13 ?_ | with_reducible refine VI.w_name14 ?_ | with_reducible refine VI.w_name15 ?_ | with_reducible refine VI.seq_nx ?_ | with_reducible refine VI.nxq_nx ?_ | with_reducible refine VI.nxq_rt ?_ | with_reducible refine VI.seq_rt ?_ | with_reducible refine VI.seq_bk ?_ | with_reducible refine VI.seq_ct ?_ | with_reducible refine VI.turn_nx ?_ | with_reducible refine VI.turn_ct ?_ | with_reducible refine VI.turn_bk ?_ | with_reducible refine VI.turn_rt ?_ | with_reducible refine VI.ret_rt ?_ | with_reducible refine VI.ret_nx ?_ | with_reducible refine VI.blq ?_ | with_reducible refine VI.ifq_t ?_ | with_reducible refine VI.ifq_f ?_ | with_reducible refine VI.ifq_n ?_ | with_reducible refine VI.it_tup' ?_ | with_reducible refine VI.it_lst' ?_ | with_reducible refine VI.it_lsk' ?_ | with_reducible refine VI.it_str' ?_ | with_reducible refine VI.q_add ?_ | with_reducible refine VI.q_iadd ?_ | with_reducible refine VI.q_sub ?_ | with_reducible refine VI.q_neg ?_ | with_reducible refine VI.q_lt ?_ | with_reducible refine VI.q_le ?_ | with_reducible refine VI.q_gt ?_ | with_reducible refine VI.q_ge ?_ | with_reducible refine VI.q_eqI ?_ | with_reducible refine VI.q_eqS ?_ | with_reducible refine VI.q_eqB ?_ | with_reducible refine VI.q_neI ?_ | with_reducible refine VI.q_neS ?_ | with_reducible refine VI.q_neB ?_ | with_reducible refine VI.q_inC ?_ | with_reducible refine VI.q_ninC ?_ | with_reducible refine VI.q_slT ?_ | with_reducible refine VI.q_slL ?_ | with_reducible refine VI.q_slK ?_ | with_reducible refine VI.q_lenT ?_ | with_reducible refine VI.q_lenL ?_ | with_reducible refine VI.q_abs ?_ | with_reducible refine VI.q_intI ?_ | with_reducible refine VI.q_intB ?_ | with_reducible refine VI.q_starts ?_ | with_reducible refine VI.q_isiB ?_ | with_reducible refine VI.q_isiS ?_ | with_reducible refine VI.q_all ?_ | (with_reducible refine ⟨_, rfl, ?_⟩)))
section
open PySem VI
namespace Law
def big : Int := 10 ^ 600
structure BagC (cs : List Int) (pos cur stir cnt : Int) : Prop where
  len : cs.length ≤ 63
  rng : ∀ c ∈ cs, 0 ≤ c ∧ c < big
  p0 : 0 ≤ pos
  p1 : pos ≤ cs.length
  c0 : 0 ≤ cur
  c1 : cur < big
  s0 : 0 ≤ stir
  s1 : stir < 2147483647
  n0 : 0 ≤ cnt
def bagL (cs : List Int) (pos cur stir cnt : Int) (ex : List D) : List D := .lst (cs.map D.int) :: .int pos :: .int cur :: .int stir :: .int cnt :: ex
def BagOk (ex : List D) (o : O) : Prop := ∃ cs pos cur stir cnt, o = .lst (bagL cs pos cur stir cnt ex) ∧ BagC cs pos cur stir cnt
/-- from m to m': the bag at b is used up further, nothing else changes -/
structure Ext (b : Nat) (ex : List D) (m m' : Mem) : Prop where
  len : m.length ≤ m'.length
  oth : ∀ i, i < m.length → i ≠ b → m'[i]? = m[i]?
  bag : ∃ o, m'[b]? = some o ∧ BagOk ex o
theorem Ext.trans {b : Nat} {ex ex' : List D} {m m1 m2 : Mem} (h : Ext b ex m m1) (g : Ext b ex' m1 m2) : Ext b ex' m m2 :=
  ⟨Nat.le_trans h.len g.len, fun i hi hb => (g.oth i (Nat.lt_of_lt_of_le hi h.len) hb).trans (h.oth i hi hb), g.bag⟩
theorem Ext.set {b : Nat} {ex : List D} {m : Mem} {o x : O} (hb : m[b]? = some x) (h : BagOk ex o) : Ext b ex m (m.set b o) := by
  have hl := (List.getElem?_eq_some_iff.mp hb).1
  exact ⟨by simp, fun i hi hne => List.getElem?_set_ne (Ne.symm hne), ⟨o, by rw [List.getElem?_set_self hl], h⟩⟩


theorem bag_at0 {cs pos cur stir cnt ex} : L2.atI (bagL cs pos cur stir cnt ex) 0 = some (.lst (cs.map D.int)) := atI_ok 0 rfl rfl
theorem bag_at1 {cs pos cur stir cnt ex} : L2.atI (bagL cs pos cur stir cnt ex) 1 = some (.int pos) := atI_ok 1 rfl rfl
theorem bag_at2 {cs pos cur stir cnt ex} : L2.atI (bagL cs pos cur stir cnt ex) 2 = some (.int cur) := atI_ok 2 rfl rfl
theorem bag_at3 {cs pos cur stir cnt ex} : L2.atI (bagL cs pos cur stir cnt ex) 3 = some (.int stir) := atI_ok 3 rfl rfl
theorem bag_at4 {cs pos cur stir cnt ex} : L2.atI (bagL cs pos cur stir cnt ex) 4 = some (.int cnt) := atI_ok 4 rfl rfl
theorem bag_set1 {cs pos cur stir cnt ex x} : (bagL cs pos cur stir cnt ex).set 1 (.int x) = bagL cs x cur stir cnt ex := rfl
theorem bag_set2 {cs pos cur stir cnt ex x} : (bagL cs pos cur stir cnt ex).set 2 (.int x) = bagL cs pos x stir cnt ex := rfl
theorem bag_set3 {cs pos cur stir cnt ex x} : (bagL cs pos cur stir cnt ex).set 3 (.int x) = bagL cs pos cur x cnt ex := rfl
theorem bag_set4 {cs pos cur stir cnt ex x} : (bagL cs pos cur stir cnt ex).set 4 (.int x) = bagL cs pos cur stir x ex := rfl
theorem bag_len {cs pos cur stir cnt ex} : (bagL cs pos cur stir cnt ex).length = ex.length + 5 := rfl
theorem get_set {m : Mem} {b : Nat} {o x : O} (h : m[b]? = some x) : (m.set b o)[b]? = some o := List.getElem?_set_self (List.getElem?_eq_some_iff.mp h).1
theorem st_stirred {m : Mem} {b : Nat} {ex : List D} (hb : ∃ o, m[b]? = some o ∧ BagOk ex o) {many : Int} (h1 : 1 ≤ many) (h2 : many < 1267650600228229401496703205376) {Q : D → Mem → Prop}
    (q : ∀ r m', 0 ≤ r → r < many → Ext b ex m m' → Q (.int r) m') : W (f__law_stirred [.cell b, .int many] m) Q := by
  refine w_fn (ρ := [some (.cell b), some (.int many), none, none]) rfl rfl ?_
  unfold b__law_stirred
  (repeat (walk_at "vi.s0"))
  have hbits : (Builtin.Int.intBits many : Int) ≤ 128 := by
    have h : many.natAbs.log2 < 100 := (Nat.log2_lt (by omega)).mpr (by
      have e : (2 : Nat) ^ 100 = 1267650600228229401496703205376 := by decide
      omega)
    have : Builtin.Int.intBits many ≤ many.natAbs.log2 + 1 := by
      unfold Builtin.Int.intBits
      split <;> omega
    omega
  refine w_for (fun _ ρ m' => ∃ found x, ρ = [some (.cell b), some (.int many), some (.int found), x] ∧ 0 ≤ found ∧ Ext b ex m m') ?_
  refine w_rng1 ?_
  (repeat (walk_at "vi.s0"))
  refine q_div (by omega) ?_
  (repeat (walk_at "vi.s0"))
  refine ⟨by omega, ⟨0, none, rfl, Int.le_refl 0, Nat.le_refl _, fun _ _ _ => rfl, hb⟩, ?_, ?_⟩
  · rintro i d ρ m1 hd ⟨found, x, rfl, hf, hE⟩
    obtain ⟨o, ho, cs, pos, cur, stir, cnt, rfl, B⟩ := hE.bag
    have B' := B
    obtain ⟨b1, b2, b3, b4, b5, b6, b7, b8, b9⟩ := B'
    (repeat (walk_at "vi.s0"))
    refine q_ixC ho bag_at4 ?_
    (repeat (walk_at "vi.s0"))
    refine ⟨_, _, 4, rfl, ho, ixN_ok 4 rfl (by rw [bag_len]; omega), ?_⟩
    rw [bag_set4]
    have ho1 := get_set (o := .lst (bagL cs pos cur stir (cnt + 1) ex)) ho
    have E1 : Ext b ex m1 (m1.set b (.lst (bagL cs pos cur stir (cnt + 1) ex))) := Ext.set ho ⟨cs, pos, cur, stir, cnt + 1, rfl, ⟨b1, b2, b3, b4, b5, b6, b7, b8, by omega⟩⟩
    (repeat (walk_at "vi.s0"))
    refine q_ixC ho1 bag_at3 ?_
    (repeat (walk_at "vi.s0"))
    refine q_pow ⟨by omega, by omega, ?_⟩ ?_
    · by_cases h0 : stir.natAbs = 0
      · rw [h0]; decide
      · have h : stir.natAbs.log2 < 31 := (Nat.log2_lt h0).mpr (by
          have e : (2 : Nat) ^ 31 = 2147483648 := by decide
          omega)
        omega
    (repeat (walk_at "vi.s0"))
    refine q_ixC ho1 bag_at3 ?_
    (repeat (walk_at "vi.s0"))
    refine q_mulL (by omega) ?_
    (repeat (walk_at "vi.s0"))
    refine q_ixC ho1 bag_at4 ?_
    (repeat (walk_at "vi.s0"))
    refine q_mulL (by omega) ?_
    (repeat (walk_at "vi.s0"))
    refine q_mod (by omega) ?_
    (repeat (walk_at "vi.s0"))
    generalize hst : (stir ^ (3 : Int).toNat + 69621 * stir + 1031 * (cnt + 1) + 1) % 2147483647 = st
    have hs0 : 0 ≤ st := by rw [← hst]; exact Int.emod_nonneg _ (by omega)
    have hs1 : st < 2147483647 := by rw [← hst]; exact Int.emod_lt_of_pos _ (by omega)
    refine ⟨_, _, 3, rfl, ho1, ixN_ok 3 rfl (by rw [bag_len]; omega), ?_⟩
    rw [bag_set3]
    have ho2 := get_set (o := .lst (bagL cs pos cur st (cnt + 1) ex)) ho1
    have E2 := E1.trans (Ext.set ho1 (o := .lst (bagL cs pos cur st (cnt + 1) ex)) ⟨cs, pos, cur, st, cnt + 1, rfl, ⟨b1, b2, b3, b4, b5, b6, hs0, hs1, by omega⟩⟩)
    (repeat (walk_at "vi.s0"))
    refine q_mulR (by omega) ?_
    (repeat (walk_at "vi.s0"))
    refine q_ixC ho2 bag_at3 ?_
    (repeat (walk_at "vi.s0"))
    refine q_div (by omega) ?_
    (repeat (walk_at "vi.s0"))
    exact ⟨_, _, rfl, by omega, hE.trans E2⟩
  · rintro ρ m1 ⟨found, x, rfl, hf, hE⟩
    (repeat (walk_at "vi.s0"))
    refine q_mod (by omega) ?_
    (repeat (walk_at "vi.s0"))
    exact q _ _ (Int.emod_nonneg _ (by omega)) (Int.emod_lt_of_pos _ (by omega)) hE

theorem st_draw {m : Mem} {b : Nat} {ex : List D} (hb : ∃ o, m[b]? = some o ∧ BagOk ex o) {many : Int} (h1 : 1 ≤ many) (h2 : many < 1267650600228229401496703205376) {Q : D → Mem → Prop}
    (q : ∀ r m', 0 ≤ r → r < many → Ext b ex m m' → Q (.int r) m') : W (f__law_draw [.cell b, .int many] m) Q := by
  refine w_fn (ρ := [some (.cell b), some (.int many), none]) rfl rfl ?_
  unfold b__law_draw
  obtain ⟨o, ho, cs, pos, cur, stir, cnt, rfl, B⟩ := hb
  have B' := B
  obtain ⟨b1, b2, b3, b4, b5, b6, b7, b8, b9⟩ := B'
  -- what is drawn of a number that is there
  have rest : ∀ (m1 : Mem) (pos1 cur1 : Int), m1[b]? = some (.lst (bagL cs pos1 cur1 stir cnt ex)) → BagC cs pos1 cur1 stir cnt → Ext b ex m m1 →
      W (bSeq (bSet (gName 2) (eOp oMod (eOp oIx (eVar 0) (eC (.int 2))) (eVar 1))) (bSeq (bSet (gIx (eVar 0) (eC (.int 2))) (eOp oDivW (eOp oIx (eVar 0) (eC (.int 2))) (eVar 1))) (bRet (eVar 2))) [some (.cell b), some (.int many), none] m1) (retQ Q) := by
    intro m1 pos1 cur1 ho1 B1 E1
    obtain ⟨c1, c2, c3, c4, c5, c6, c7, c8, c9⟩ := B1
    (repeat (walk_at "vi.s0"))
    refine q_ixC ho1 bag_at2 ?_
    (repeat (walk_at "vi.s0"))
    refine q_mod (by omega) ?_
    (repeat (walk_at "vi.s0"))
    refine q_ixC ho1 bag_at2 ?_
    (repeat (walk_at "vi.s0"))
    refine q_divW (by omega) ?_
    (repeat (walk_at "vi.s0"))
    refine ⟨_, _, 2, rfl, ho1, ixN_ok 2 rfl (by rw [bag_len]; omega), ?_⟩
    rw [bag_set2]
    have hd1 : 0 ≤ cur1 / many := Int.ediv_nonneg c5 (by omega)
    have hd2 : cur1 / many ≤ cur1 := Int.ediv_le_self _ c5
    have E2 := E1.trans (Ext.set ho1 (o := .lst (bagL cs pos1 (cur1 / many) stir cnt ex)) ⟨cs, pos1, cur1 / many, stir, cnt, rfl, ⟨c1, c2, c3, c4, hd1, by omega, c7, c8, c9⟩⟩)
    (repeat (walk_at "vi.s0"))
    exact q _ _ (Int.emod_nonneg _ (by omega)) (Int.emod_lt_of_pos _ (by omega)) E2
  have self : Ext b ex m m := ⟨Nat.le_refl _, fun _ _ _ => rfl, ⟨_, ho, cs, pos, cur, stir, cnt, rfl, B⟩⟩
  (repeat (walk_at "vi.s0"))
  refine q_ixC ho bag_at2 ?_
  (repeat (walk_at "vi.s0"))
  refine ifq_d (fun hc => ?_) (fun hc => ?_)
  · (repeat (walk_at "vi.s0"))
    refine q_ixC ho bag_at1 ?_
    (repeat (walk_at "vi.s0"))
    refine q_ixC ho bag_at0 ?_
    (repeat (walk_at "vi.s0"))
    rw [List.length_map]
    refine ifq_d (fun hp => ?_) (fun hp => ?_)
    · (repeat (walk_at "vi.s0"))
      refine q_ixC ho bag_at0 ?_
      (repeat (walk_at "vi.s0"))
      refine q_ixC ho bag_at1 ?_
      (repeat (walk_at "vi.s0"))
      have hlt : pos.toNat < cs.length := by omega
      have hat : L2.atI (cs.map D.int) pos = some (.int cs[pos.toNat]) := atI_ok pos.toNat (by omega) (by rw [List.getElem?_map, List.getElem?_eq_getElem hlt]; rfl)
      refine q_ixL hat ?_
      (repeat (walk_at "vi.s0"))
      refine ⟨_, _, 2, rfl, ho, ixN_ok 2 rfl (by rw [bag_len]; omega), ?_⟩
      rw [bag_set2]
      have hr := b2 cs[pos.toNat] (List.getElem_mem hlt)
      have ho1 := get_set (o := .lst (bagL cs pos cs[pos.toNat] stir cnt ex)) ho
      have E1 := self.trans (Ext.set ho (o := .lst (bagL cs pos cs[pos.toNat] stir cnt ex)) ⟨cs, pos, cs[pos.toNat], stir, cnt, rfl, ⟨b1, b2, b3, b4, hr.1, hr.2, b7, b8, b9⟩⟩)
      (repeat (walk_at "vi.s0"))
      refine q_ixC ho1 bag_at1 ?_
      (repeat (walk_at "vi.s0"))
      refine ⟨_, _, 1, rfl, ho1, ixN_ok 1 rfl (by rw [bag_len]; omega), ?_⟩
      rw [bag_set1]
      have ho2 := get_set (o := .lst (bagL cs (pos + 1) cs[pos.toNat] stir cnt ex)) ho1
      have B2 : BagC cs (pos + 1) cs[pos.toNat] stir cnt := ⟨b1, b2, by omega, by omega, hr.1, hr.2, b7, b8, b9⟩
      have E2 := E1.trans (Ext.set ho1 (o := .lst (bagL cs (pos + 1) cs[pos.toNat] stir cnt ex)) ⟨cs, pos + 1, cs[pos.toNat], stir, cnt, rfl, B2⟩)
      refine seq_nx ?_
      exact rest _ _ _ ho2 B2 E2
    · (repeat (walk_at "vi.s0"))
      refine q_ixC ho bag_at2 ?_
      (repeat (walk_at "vi.s0"))
      refine ifq_d (fun _ => ?_) (fun hn => absurd hc hn)
      (repeat (walk_at "vi.s0"))
      refine w_call ?_
      (repeat (walk_at "vi.s0"))
      refine st_stirred ⟨_, ho, cs, pos, cur, stir, cnt, rfl, B⟩ h1 h2 fun r m' r0 r1 E => ?_
      exact q r m' r0 r1 E
  · (repeat (walk_at "vi.s0"))
    refine q_ixC ho bag_at2 ?_
    (repeat (walk_at "vi.s0"))
    refine ifq_d (fun hz => absurd hz hc) (fun _ => ?_)
    refine w_bnil ?_
    refine seq_nx ?_
    exact rest _ _ _ ho B self
end Law
end
section
open PySem VI
namespace Law
theorem mem_cut {α : Type} {xs : List α} {lo hi : Option Int} {x : α} (h : x ∈ cutD xs lo hi) : x ∈ xs := by
  unfold cutD at h
  exact List.mem_of_mem_drop (List.mem_of_mem_take h)
theorem cut_len {α : Type} {xs : List α} {lo hi : Option Int} : (cutD xs lo hi).length ≤ xs.length := by
  unfold cutD
  rw [List.length_take, List.length_drop]
  omega
theorem int_of {ns : List Int} {lo hi : Option Int} {i : Nat} {d : D} (h : (cutD (ns.map D.int) lo hi)[i]? = some d) : ∃ n, d = .int n := by
  have h1 := mem_cut (List.mem_of_getElem? h)
  obtain ⟨n, _, e⟩ := List.mem_map.mp h1
  exact ⟨n, e.symm⟩
theorem st_bag {ns : List Int} (hl : ns.length ≤ 63) {Q : D → Mem → Prop} (q : ∀ o, BagOk [] o → Q (.cell 0) [o]) : W (f__law_bag [.lsk (ns.map D.int)] []) Q := by
  refine w_fn (ρ := [some (.lsk (ns.map D.int)), none, none]) rfl rfl ?_
  unfold b__law_bag
  (repeat (walk_at "vi.s0"))
  refine w_for (fun _ ρ m' => ∃ st x, ρ = [some (.lsk (ns.map D.int)), some (.int st), x] ∧ m' = [] ∧ 0 ≤ st ∧ st < 2147483647) ?_
  (repeat (walk_at "vi.s0"))
  refine ⟨⟨31, none, rfl, rfl, by omega, by omega⟩, ?_, ?_⟩
  · rintro i d ρ m1 hd ⟨st, x, rfl, rfl, s0, s1⟩
    obtain ⟨n, rfl⟩ := int_of hd
    (repeat (walk_at "vi.s0"))
    refine q_mulL (by omega) ?_
    (repeat (walk_at "vi.s0"))
    refine q_mod (by omega) ?_
    (repeat (walk_at "vi.s0"))
    refine q_mod (by omega) ?_
    (repeat (walk_at "vi.s0"))
    exact ⟨_, _, rfl, rfl, Int.emod_nonneg _ (by omega), Int.emod_lt_of_pos _ (by omega)⟩
  · rintro ρ m1 ⟨st, x, rfl, rfl, s0, s1⟩
    (repeat (walk_at "vi.s0"))
    refine w_comp (fun i acc m' => m' = [] ∧ ∃ cs : List Int, acc = cs.map D.int ∧ cs.length = i ∧ ∀ c ∈ cs, 0 ≤ c ∧ c < big) ?_
    (repeat (walk_at "vi.s0"))
    have hl2 : (cutD (ns.map D.int) none (some 63)).length ≤ 63 := Nat.le_trans cut_len (by rw [List.length_map]; exact hl)
    refine ⟨by omega, ⟨rfl, [], rfl, rfl, fun c hc => nomatch hc⟩, ?_, ?_⟩
    · rintro i d acc m1 hd ⟨rfl, cs, rfl, hcl, hcs⟩
      obtain ⟨n, rfl⟩ := int_of hd
      show W (gName 2 _ [some (.lsk (ns.map D.int)), some (.int st), none] _) _
      (repeat (walk_at "vi.s0"))
      refine q_pow ⟨by omega, by omega, by decide⟩ ?_
      (repeat (walk_at "vi.s0"))
      refine q_pow ⟨by omega, by omega, by decide +kernel⟩ ?_
      have hb : ((10 : Int) ^ (60 : Int).toNat) ^ (10 : Int).toNat = big := by decide +kernel
      rw [hb]
      have hbp : 0 < big := by decide +kernel
      refine q_mod hbp ?_
      refine ⟨rfl, cs ++ [(if n < 0 then -n else n) % big], by rw [List.map_append]; rfl, by rw [List.length_append]; show cs.length + 1 = _; omega, fun c hc => ?_⟩
      rcases List.mem_append.mp hc with h | h
      · exact hcs c h
      · rw [List.mem_singleton.mp h]
        exact ⟨Int.emod_nonneg _ (by omega), Int.emod_lt_of_pos _ hbp⟩
    · rintro acc m1 ⟨rfl, cs, rfl, hcl, hcs⟩
      (repeat (walk_at "vi.s0"))
      exact q _ ⟨cs, 0, 0, st, 0, rfl, ⟨by omega, hcs, by omega, by omega, by omega, by decide +kernel, s0, s1, by omega⟩⟩
end Law
end
section
set_option maxHeartbeats 1000000
open PySem VI
namespace Law
/-- what a word is -/
def isWord (s : List Nat) : Bool := decide (1 ≤ s.length) && decide (s.length ≤ 12) && !decide (s.head? = some 45) && s.all fun c => decide (c ∈ lit6e3145)
theorem cut_to {w : List Nat} {k : Int} (h : 0 ≤ k) : cutD w none (some k) = w.take k.toNat := by
  unfold cutD
  rw [HT.sIx_none]
  have e : HT.sIx w.length w.length (some k) = min k.toNat w.length := by
    unfold HT.sIx
    dsimp only
    rw [if_neg (show ¬ k < 0 by omega)]
  rw [e, List.drop_zero, Nat.sub_zero, List.take_eq_take_iff]
  omega
theorem cut_from {w : List Nat} {k : Int} (h : 0 ≤ k) : cutD w (some k) none = w.drop k.toNat := by
  unfold cutD
  rw [HT.sIx_none]
  have e : HT.sIx w.length 0 (some k) = min k.toNat w.length := by
    unfold HT.sIx
    dsimp only
    rw [if_neg (show ¬ k < 0 by omega)]
  rw [e, List.take_of_length_le (by rw [List.length_drop]; exact Nat.le_refl _)]
  by_cases hk : k.toNat ≤ w.length
  · rw [Nat.min_eq_left hk]
  · rw [Nat.min_eq_right (by omega), List.drop_eq_nil_of_le (Nat.le_refl _), List.drop_eq_nil_of_le (by omega)]
def isL (c : Nat) : Bool := decide (c ∈ lit6e3145)
def wordAt (s : List Nat) (a : Nat) : List Nat := if 12 < ((s.drop a).takeWhile isL).length ∨ ((s.drop a).takeWhile isL).head? = some 45 then [] else (s.drop a).takeWhile isL
theorem cut_mid {w : List Nat} {i j : Nat} (h : i ≤ j) : cutD w (some (i : Int)) (some (j : Int)) = (w.drop i).take (j - i) := by
  unfold cutD
  rw [HT.sIx_nat, HT.sIx_nat]
  by_cases h1 : i ≤ w.length
  · rw [Nat.min_eq_left h1]
    rw [List.take_eq_take_iff, List.length_drop]
    omega
  · rw [List.drop_eq_nil_of_le (as := w) (i := min i w.length) (by omega), List.drop_eq_nil_of_le (as := w) (i := i) (by omega), List.take_nil, List.take_nil]
theorem take_tw {p : Nat → Bool} : ∀ l : List Nat, l.take (l.takeWhile p).length = l.takeWhile p
  | [] => rfl
  | c :: r => by
    rw [List.takeWhile_cons]
    split
    · rw [List.length_cons, List.take_succ_cons, take_tw r]
    · rfl
theorem tw_take {p : Nat → Bool} : ∀ (l : List Nat) (n : Nat), (l.take n).takeWhile p = (l.takeWhile p).take n
  | [], n => by simp
  | c :: r, 0 => rfl
  | c :: r, n + 1 => by
    rw [List.take_succ_cons, List.takeWhile_cons, List.takeWhile_cons]
    split
    · rw [List.take_succ_cons, tw_take r n]
    · rfl
theorem st_run_at {s : List Nat} {a : Nat} {m : Mem} (hl : s.length ≤ 100000) (ha : a ≤ 100000) {Q : D → Mem → Prop} (q : Q (.str ((s.drop a).takeWhile isL)) m) : W (f_run_at [.str s, .int a, k_WORD_SIGNS] m) Q := by
  refine w_fn (ρ := [some (.str s), some (.int a), some k_WORD_SIGNS, none]) rfl rfl ?_
  unfold b_run_at k_WORD_SIGNS
  (repeat (walk_at "vi.s0"))
  refine q_slS (by omega) ?_
  rw [cut_from (by omega), show (a : Int).toNat = a by omega]
  have hdl : (s.drop a).length ≤ s.length := by rw [List.length_drop]; omega
  have hd := take_tw (p := isL) (s.drop a)
  have ht : ((s.drop a).takeWhile isL).length ≤ (s.drop a).length := (List.takeWhile_sublist _).length_le
  generalize hx : s.drop a = x at *
  (repeat (walk_at "vi.s0"))
  refine q_lenS (by omega) ?_
  (repeat (walk_at "vi.s0"))
  refine q_lstrip (by omega) ?_
  have e : (x.takeWhile fun c => decide (c ∈ lit6e3145)) = x.takeWhile isL := rfl
  rw [e]
  (repeat (walk_at "vi.s0"))
  refine q_lenS (by rw [List.length_drop]; omega) ?_
  (repeat (walk_at "vi.s0"))
  refine q_slS (by omega) ?_
  rw [List.length_drop, cut_to (by omega)]
  have e2 : ((x.length : Int) - ((x.length - (x.takeWhile isL).length : Nat) : Int)).toNat = (x.takeWhile isL).length := by omega
  rw [e2, hd]
  (repeat (walk_at "vi.s0"))
  exact q
theorem st_run_atG {s g : List Nat} {a : Nat} {m : Mem} (hl : s.length ≤ 100000) (ha : a ≤ 100000) {Q : D → Mem → Prop} (q : Q (.str ((s.drop a).takeWhile fun c => decide (c ∈ g))) m) : W (f_run_at [.str s, .int a, .str g] m) Q := by
  refine w_fn (ρ := [some (.str s), some (.int a), some (.str g), none]) rfl rfl ?_
  unfold b_run_at
  (repeat (walk_at "vi.s0"))
  refine q_slS (by omega) ?_
  rw [cut_from (by omega), show (a : Int).toNat = a by omega]
  have hdl : (s.drop a).length ≤ s.length := by rw [List.length_drop]; omega
  have hd := take_tw (p := fun c => decide (c ∈ g)) (s.drop a)
  have ht : ((s.drop a).takeWhile fun c => decide (c ∈ g)).length ≤ (s.drop a).length := (List.takeWhile_sublist _).length_le
  generalize hx : s.drop a = x at *
  (repeat (walk_at "vi.s0"))
  refine q_lenS (by omega) ?_
  (repeat (walk_at "vi.s0"))
  refine q_lstrip (by omega) ?_
  (repeat (walk_at "vi.s0"))
  refine q_lenS (by rw [List.length_drop]; omega) ?_
  (repeat (walk_at "vi.s0"))
  refine q_slS (by omega) ?_
  rw [List.length_drop, cut_to (by omega)]
  have e2 : ((x.length : Int) - ((x.length - (x.takeWhile fun c => decide (c ∈ g)).length : Nat) : Int)).toNat = (x.takeWhile fun c => decide (c ∈ g)).length := by omega
  rw [e2, hd]
  (repeat (walk_at "vi.s0"))
  exact q
theorem st_word_at {s : List Nat} {a : Nat} {m : Mem} (hl : s.length ≤ 100000) (ha : a ≤ 90000) {Q : D → Mem → Prop} (q : Q (.str (wordAt s a)) m) : W (f_word_at [.str s, .int a] m) Q := by
  refine w_fn (ρ := [some (.str s), some (.int a), none]) rfl rfl ?_
  unfold b_word_at k_MOST_WORD_SIGNS
  (repeat (walk_at "vi.s0"))
  refine w_call ?_
  (repeat (walk_at "vi.s0"))
  refine q_slS (by omega) ?_
  have ec : cutD s (some (a : Int)) (some ((a : Int) + 12 + 1)) = (s.drop a).take 13 := by
    rw [show ((a : Int) + 12 + 1) = ((a + 13 : Nat) : Int) by omega, cut_mid (by omega), Nat.add_sub_cancel_left]
  rw [ec]
  (repeat (walk_at "vi.s0"))
  have hw : ((s.drop a).take 13).length ≤ 13 := by rw [List.length_take]; omega
  refine st_run_at (a := 0) (by omega) (by omega) ?_
  rw [List.drop_zero, tw_take]
  have hlen : (((s.drop a).takeWhile isL).take 13).length = min 13 ((s.drop a).takeWhile isL).length := List.length_take
  have hfull : ((s.drop a).takeWhile isL).length ≤ 13 → ((s.drop a).takeWhile isL).take 13 = (s.drop a).takeWhile isL := fun h => List.take_of_length_le h
  have hhead : (((s.drop a).takeWhile isL).take 13).head? = ((s.drop a).takeWhile isL).head? := by
    cases (s.drop a).takeWhile isL <;> rfl
  have hq : wordAt s a = if 12 < ((s.drop a).takeWhile isL).length ∨ ((s.drop a).takeWhile isL).head? = some 45 then [] else (s.drop a).takeWhile isL := rfl
  generalize (s.drop a).takeWhile isL = y at *
  (repeat (walk_at "vi.s0"))
  refine q_lenS (by omega) ?_
  (repeat (walk_at "vi.s0"))
  refine ifq_d (fun h12 => ?_) (fun h12 => ?_)
  · (repeat (walk_at "vi.s0"))
    rw [hq, if_pos (.inl (by omega))] at q
    exact q
  · (repeat (walk_at "vi.s0"))
    rw [startsD_one, hhead]
    refine ifq_d (fun h45 => ?_) (fun h45 => ?_)
    · (repeat (walk_at "vi.s0"))
      rw [hq, if_pos (.inr h45)] at q
      exact q
    · (repeat (walk_at "vi.s0"))
      rw [hq, if_neg (fun h => h.elim (fun h => by omega) h45)] at q
      rw [hfull (by omega)]
      exact q
theorem tw_self {p : Nat → Bool} : ∀ {l : List Nat}, l.takeWhile p = l ↔ ∀ x ∈ l, p x = true
  | [] => ⟨(fun _ x h => nomatch h), fun _ => rfl⟩
  | c :: r => by
    rw [List.takeWhile_cons]
    by_cases h : p c = true
    · rw [if_pos h]
      constructor
      · intro e x hx
        injection e with _ e
        rcases List.mem_cons.mp hx with rfl | hx
        · exact h
        · exact tw_self.mp e x hx
      · intro g
        rw [tw_self.mpr fun x hx => g x (List.mem_cons_of_mem _ hx)]
    · rw [if_neg h]
      exact ⟨(fun e => nomatch e), fun g => absurd (g c List.mem_cons_self) h⟩
theorem isWord_eq (s : List Nat) : isWord s = (!decide (s = []) && decide (wordAt s 0 = s)) := by
  unfold isWord
  cases s with
  | nil => rfl
  | cons c r =>
    rw [decide_eq_true (p := 1 ≤ (c :: r).length) (by rw [List.length_cons]; omega), decide_eq_false (p := c :: r = []) (by simp), Bool.true_and, Bool.not_false, Bool.true_and]
    rw [Bool.eq_iff_iff, decide_eq_true_iff]
    have hp : (c :: r).takeWhile isL <+: c :: r := List.takeWhile_prefix _
    unfold wordAt
    rw [List.drop_zero]
    constructor
    · intro h
      rw [Bool.and_eq_true, Bool.and_eq_true, decide_eq_true_iff] at h
      obtain ⟨⟨h1, h2⟩, h3⟩ := h
      have e : (c :: r).takeWhile isL = c :: r := by
        rw [tw_self]
        intro x hx
        exact List.all_eq_true.mp h3 x hx
      rw [e, if_neg]
      rintro (h | h)
      · omega
      · rw [decide_eq_true h] at h2; cases h2
    · intro h
      split at h
      · cases h
      · rename_i hn
        rw [h] at hn
        rw [Bool.and_eq_true, Bool.and_eq_true, decide_eq_true_iff]
        refine ⟨⟨by omega, ?_⟩, ?_⟩
        · rw [decide_eq_false fun g => hn (.inr g)]; rfl
        · rw [List.all_eq_true]
          have := tw_self.mp h
          exact fun x hx => this x hx
theorem st_is_word {s : List Nat} {m : Mem} (hl : s.length ≤ 100000) {Q : D → Mem → Prop} (q : Q (.bl (isWord s)) m) : W (f_is_word [.str s] m) Q := by
  refine w_fn (ρ := [some (.str s)]) rfl rfl ?_
  unfold b_is_word
  rw [isWord_eq] at q
  (repeat (walk_at "vi.s0"))
  refine ifq_d (fun h => ?_) (fun h => ?_)
  · (repeat (walk_at "vi.s0"))
    rw [decide_eq_true h] at q
    exact q
  · (repeat (walk_at "vi.s0"))
    refine w_call ?_
    (repeat (walk_at "vi.s0"))
    refine st_word_at (a := 0) hl (by omega) ?_
    (repeat (walk_at "vi.s0"))
    rw [decide_eq_false h, Bool.not_false, Bool.true_and] at q
    exact q
end Law
end
section
set_option maxHeartbeats 1000000
open PySem VI
namespace Law
/-! numbers of up to three figures -/
theorem tw_full {p : Nat → Bool} : ∀ {l : List Nat}, (∀ c ∈ l, p c = true) → l.takeWhile p = l := fun h => tw_self.mpr h
theorem dw_of {p : Nat → Bool} : ∀ {l : List Nat}, ¬ (∀ c ∈ l, p c = true) → ∃ x r, l.drop (l.takeWhile p).length = x :: r ∧ p x = false
  | [], h => absurd (fun _ h => by cases h) h
  | c :: r, h => by
    by_cases hc : p c = true
    · rw [List.takeWhile_cons, if_pos hc, List.length_cons, List.drop_succ_cons]
      exact dw_of fun g => h fun x hx => (List.mem_cons.mp hx).elim (fun e => e ▸ hc) (g x)
    · rw [List.takeWhile_cons, if_neg hc]
      exact ⟨c, r, rfl, by simpa using hc⟩
theorem tw_rev_lt {p : Nat → Bool} {x : Nat} {r : List Nat} (h : p x = false) : ((x :: r).reverse.takeWhile p).length ≤ r.length := by
  rw [List.reverse_cons]
  have : ((r.reverse ++ [x]).takeWhile p) <+: r.reverse := by
    by_cases hr : ∀ c ∈ r.reverse, p c = true
    · rw [List.takeWhile_append_of_pos hr, List.takeWhile_cons, if_neg (by rw [h]; simp), List.append_nil]
      exact List.prefix_refl _
    · have e : (r.reverse ++ [x]).takeWhile p = r.reverse.takeWhile p := by
        rw [List.takeWhile_append]
        rw [if_neg]
        intro e
        apply hr
        have e2 : r.reverse.takeWhile p = r.reverse := (List.takeWhile_prefix p).eq_of_length e
        exact tw_self.mp e2
      rw [e]
      exact List.takeWhile_prefix p
  have := this.length_le
  rw [List.length_reverse] at this
  exact this
theorem stripL_nil (s t : List Nat) : stripL s t = [] ↔ ∀ c ∈ s, c ∈ t := by
  constructor
  · intro h
    apply Classical.byContradiction
    intro g
    have g' : ¬ ∀ c ∈ s, (fun c => decide (c ∈ t)) c = true := fun k => g fun c hc => of_decide_eq_true (k c hc)
    obtain ⟨x, r, e, hx⟩ := dw_of g'
    unfold stripL at h
    rw [e] at h
    have h1 := tw_rev_lt (p := fun c => decide (c ∈ t)) (x := x) (r := r) hx
    have hl : (s.drop (s.takeWhile fun c => decide (c ∈ t)).length).length = r.length + 1 := by rw [e]; rfl
    rw [List.length_drop] at hl
    have h2 := congrArg List.length h
    rw [List.length_take, List.length_cons, List.length_nil] at h2
    omega
  · intro h
    unfold stripL
    rw [tw_full (l := s) (p := fun c => decide (c ∈ t)) fun c hc => decide_eq_true (h c hc), List.drop_length, List.take_nil]
def figs (w : List Nat) : List Nat := if w.head? = some 45 then w.tail else w
def numV (w : List Nat) : Int := (PySem.intText? (S w)).getD 0
def isNum (w : List Nat) : Bool := !decide (figs w = []) && decide ((figs w).length ≤ 3) && decide (∀ c ∈ figs w, c ∈ lit87acec) && decide (strI (numV w) = w)
theorem dig_of {c : Nat} (h : c ∈ lit87acec) : 48 ≤ c ∧ c ≤ 57 := by
  unfold lit87acec at h
  simp only [List.mem_cons, List.not_mem_nil, or_false] at h
  omega
theorem dig_mem {c : Nat} (h : 48 ≤ c ∧ c ≤ 57) : c ∈ lit87acec := by
  unfold lit87acec
  simp only [List.mem_cons, List.not_mem_nil, or_false]
  omega
theorem foldl_bound : ∀ (cs : List Nat) (acc n : Nat), NumText.AllDigits cs → acc < 10 ^ n → cs.foldl (fun acc c => acc * 10 + (c - 48)) acc < 10 ^ (n + cs.length)
  | [], acc, n, _, h => h
  | c :: r, acc, n, hd, h => by
    rw [List.foldl_cons, List.length_cons, show n + (r.length + 1) = (n + 1) + r.length by omega]
    refine foldl_bound r _ (n + 1) hd.tail ?_
    have := hd.head
    rw [Nat.pow_succ]
    omega
theorem num_def {w : List Nat} (h1 : figs w ≠ []) (h2 : (figs w).length ≤ 3) (h3 : ∀ c ∈ figs w, c ∈ lit87acec) : PySem.intText? (S w) = some (numV w) ∧ (numV w).natAbs < 1000 ∧ w.length ≤ 4 := by
  have hd : NumText.AllDigits (figs w) := fun c hc => dig_of (h3 c hc)
  have hb := foldl_bound (figs w) 0 0 hd (by decide)
  have hb2 : NumText.digitsVal (figs w) < 10 ^ 3 := by
    refine Nat.lt_of_lt_of_le hb (Nat.pow_le_pow_right (by decide) (by omega))
  unfold figs at *
  by_cases hh : w.head? = some 45
  · rw [if_pos hh] at *
    cases w with
    | nil => cases hh
    | cons c r =>
      cases hh
      have e := PySem.intText_neg (x := S (45 :: r)) (cs := r) (S_tl _) hd h1 (by rw [S_len]; simp only [List.tail_cons] at h2; rw [List.length_cons]; omega)
      have e2 : numV (45 :: r) = -((NumText.digitsVal r : Nat) : Int) := by unfold numV; rw [e]; rfl
      refine ⟨by rw [e, e2], ?_, by simp only [List.tail_cons] at h2; rw [List.length_cons]; omega⟩
      rw [e2, Int.natAbs_neg, Int.natAbs_natCast]
      exact hb2
  · rw [if_neg hh] at *
    have e := PySem.intText_digits (x := S w) (by rw [S_tl]; exact hd) (by rw [S_tl]; exact h1) (by rw [S_len]; omega)
    rw [S_tl] at e
    have e2 : numV w = ((NumText.digitsVal w : Nat) : Int) := by unfold numV; rw [e]; rfl
    refine ⟨by rw [e, e2], ?_, by omega⟩
    rw [e2, Int.natAbs_natCast]
    exact hb2
theorem log_of {n : Int} {k : Nat} (h : n.natAbs < 2 ^ k) (hk : k < 1920) : n.natAbs.log2 < 1920 := by
  by_cases h0 : n.natAbs = 0
  · rw [h0]; decide
  · have := (Nat.log2_lt (k := k) h0).mpr h
    omega
theorem st_number_of {s : List Nat} {m : Mem} (hl : s.length ≤ 100000) {Q : D → Mem → Prop} (q : Q (if isNum s then .int (numV s) else .non) m) : W (f_number_of [.str s, .int 3] m) Q := by
  refine w_fn (ρ := [some (.str s), some (.int 3), none, none]) rfl rfl ?_
  unfold b_number_of k_FIGURES
  (repeat (walk_at "vi.s0"))
  refine q_removeprefix (by omega) ?_
  have ef : (if s.head? = some 45 then s.tail else s) = figs s := rfl
  rw [ef]
  have hfl : (figs s).length ≤ 100000 := by
    unfold figs
    split
    · rw [List.length_tail]; omega
    · exact hl
  (repeat (walk_at "vi.s0"))
  by_cases h1 : figs s = []
  · rw [decide_eq_true h1]
    have e : isNum s = false := by unfold isNum; rw [decide_eq_true h1]; rfl
    rw [e] at q
    (repeat (walk_at "vi.s0"))
    exact q
  rw [decide_eq_false h1]
  (repeat (walk_at "vi.s0"))
  refine q_lenS (by omega) ?_
  (repeat (walk_at "vi.s0"))
  refine ifq_d (fun h2 => ?_) (fun h2 => ?_)
  · have e : isNum s = false := by unfold isNum; rw [decide_eq_false (p := (figs s).length ≤ 3) (by omega), Bool.and_false, Bool.false_and, Bool.false_and]
    rw [e] at q
    (repeat (walk_at "vi.s0"))
    exact q
  (repeat (walk_at "vi.s0"))
  refine q_strip (by omega) ?_
  (repeat (walk_at "vi.s0"))
  by_cases h3 : ∀ c ∈ figs s, c ∈ lit87acec
  · rw [decide_eq_true ((stripL_nil _ _).mpr h3)]
    obtain ⟨d1, d2, d3⟩ := num_def h1 (by omega) h3
    (repeat (walk_at "vi.s0"))
    refine q_intS (by omega) d1 ?_
    (repeat (walk_at "vi.s0"))
    refine q_strI (log_of (k := 10) (by omega) (by decide)) ?_
    (repeat (walk_at "vi.s0"))
    have e : isNum s = decide (strI (numV s) = s) := by
      unfold isNum
      rw [decide_eq_false h1, decide_eq_true (p := (figs s).length ≤ 3) (by omega), decide_eq_true h3]
      rfl
    rw [e] at q
    refine ifq_d (fun h4 => ?_) (fun h4 => ?_)
    · rw [decide_eq_true h4] at q
      (repeat (walk_at "vi.s0"))
      exact q
    · rw [decide_eq_false h4] at q
      (repeat (walk_at "vi.s0"))
      exact q
  · rw [decide_eq_false (fun g => h3 ((stripL_nil _ _).mp g))]
    have e : isNum s = false := by unfold isNum; rw [decide_eq_false h3, Bool.and_false, Bool.false_and]
    rw [e] at q
    (repeat (walk_at "vi.s0"))
    exact q
/-! how a number is written -/
theorem strI_nat (k : Nat) : strI (k : Int) = (Nat.toDigits 10 k).map Char.toNat := PySem.W.KIN.signs_num k
theorem strI_neg (k : Nat) : strI (Int.negSucc k) = 45 :: (Nat.toDigits 10 (k + 1)).map Char.toNat := by
  unfold strI
  rw [Str.ofString_eq_toList]
  show (("-" ++ Nat.repr (k + 1)).toList.map Char.toNat) = _
  rw [String.toList_append, List.map_append, Nat.toList_repr]
  rfl
/-- up to three figures, by hand -/
def dgt (k : Nat) : List Nat := if k < 10 then [48 + k] else if k < 100 then [48 + k / 10, 48 + k % 10] else [48 + k / 100, 48 + k / 10 % 10, 48 + k % 10]
def numW (i : Int) : List Nat := if i < 0 then 45 :: dgt i.natAbs else dgt i.natAbs
theorem dgt_all : ∀ k < 1000, (Nat.toDigits 10 k).map Char.toNat = dgt k := by decide +kernel
theorem dgt_val : ∀ k < 1000, NumText.digitsVal (dgt k) = k ∧ dgt k ≠ [] ∧ (dgt k).length ≤ 3 ∧ (∀ c ∈ dgt k, 48 ≤ c ∧ c ≤ 57) := by decide +kernel
theorem strI_numW {i : Int} (h : i.natAbs < 1000) : strI i = numW i := by
  cases i with
  | ofNat k =>
    show strI (k : Int) = numW (k : Int)
    rw [strI_nat, dgt_all k h]
    unfold numW
    rw [if_neg (by omega), Int.natAbs_natCast]
  | negSucc k =>
    have hk : k + 1 < 1000 := h
    rw [strI_neg, dgt_all (k + 1) hk]
    unfold numW
    rw [if_pos (Int.negSucc_lt_zero k)]
    rfl
theorem numW_len {i : Int} (h : i.natAbs < 1000) : (numW i).length ≤ 4 ∧ numW i ≠ [] := by
  obtain ⟨_, h1, h2, _⟩ := dgt_val i.natAbs h
  unfold numW
  split
  · exact ⟨by rw [List.length_cons]; omega, by simp⟩
  · exact ⟨by omega, h1⟩
theorem numW_signs {i : Int} (h : i.natAbs < 1000) : ∀ c ∈ numW i, c = 45 ∨ (48 ≤ c ∧ c ≤ 57) := by
  obtain ⟨_, _, _, h1⟩ := dgt_val i.natAbs h
  unfold numW
  intro c hc
  split at hc
  · rcases List.mem_cons.mp hc with h | h
    · exact .inl h
    · exact .inr (h1 c h)
  · exact .inr (h1 c hc)
theorem num_W {i : Int} (h : i.natAbs < 1000) : isNum (numW i) = true ∧ numV (numW i) = i := by
  obtain ⟨h0, h1, h2, h3⟩ := dgt_val i.natAbs h
  have key : figs (numW i) = dgt i.natAbs ∧ numV (numW i) = i := by
    unfold numW
    by_cases hi : i < 0
    · rw [if_pos hi]
      refine ⟨rfl, ?_⟩
      unfold numV
      have := PySem.intText_neg (x := S (45 :: dgt i.natAbs)) (cs := dgt i.natAbs) (S_tl _) h3 h1 (by rw [S_len, List.length_cons]; omega)
      rw [this, h0]
      show -((i.natAbs : Nat) : Int) = i
      omega
    · rw [if_neg hi]
      have hh : (dgt i.natAbs).head? ≠ some 45 := by
        intro g
        have := h3 45 (List.mem_of_head? g)
        omega
      refine ⟨by unfold figs; rw [if_neg hh], ?_⟩
      unfold numV
      have := PySem.intText_digits (x := S (dgt i.natAbs)) (by rw [S_tl]; exact h3) (by rw [S_tl]; exact h1) (by rw [S_len]; omega)
      rw [this, S_tl, h0]
      show ((i.natAbs : Nat) : Int) = i
      omega
  refine ⟨?_, key.2⟩
  unfold isNum
  rw [key.1, key.2, strI_numW h, decide_eq_false h1, decide_eq_true h2, decide_eq_true (p := ∀ c ∈ dgt i.natAbs, c ∈ lit87acec) (fun c hc => dig_mem (h3 c hc)), decide_eq_true rfl]
  rfl
theorem num_iff {s : List Nat} : isNum s = true ↔ ∃ i : Int, i.natAbs < 1000 ∧ s = numW i := by
  constructor
  · intro h
    unfold isNum at h
    simp only [Bool.and_eq_true, Bool.not_eq_true', decide_eq_true_eq, decide_eq_false_iff_not] at h
    obtain ⟨⟨⟨h1, h2⟩, h3⟩, h4⟩ := h
    obtain ⟨_, d2, _⟩ := num_def h1 h2 h3
    exact ⟨numV s, d2, by rw [← strI_numW d2, h4]⟩
  · rintro ⟨i, hi, rfl⟩
    exact (num_W hi).1
/-! a number between two -/
def betw (lo hi : Int) (s : List Nat) : Bool := isNum s && (decide (lo ≤ numV s) && decide (numV s ≤ hi))
def intsW (lo hi : Int) : List (List Nat) := (List.range (hi - lo + 1).toNat).map fun (k : Nat) => numW (lo + (k : Int))
theorem betw_mem {lo hi : Int} {s : List Nat} (h1 : -1000 < lo) (h2 : hi < 1000) : betw lo hi s = decide (s ∈ intsW lo hi) := by
  rw [Bool.eq_iff_iff, decide_eq_true_iff]
  unfold betw intsW
  rw [Bool.and_eq_true, Bool.and_eq_true, decide_eq_true_iff, decide_eq_true_iff, num_iff]
  constructor
  · rintro ⟨⟨i, hi1, rfl⟩, h3, h4⟩
    rw [(num_W hi1).2] at h3 h4
    refine List.mem_map.mpr ⟨(i - lo).toNat, List.mem_range.mpr (by omega), ?_⟩
    congr 1
    omega
  · intro h
    obtain ⟨k, hk, rfl⟩ := List.mem_map.mp h
    have hk := List.mem_range.mp hk
    have hb : (lo + (k : Int)).natAbs < 1000 := by omega
    refine ⟨⟨_, hb, rfl⟩, ?_, ?_⟩
    · rw [(num_W hb).2]; omega
    · rw [(num_W hb).2]; omega
theorem st_is_between {s : List Nat} {lo hi : Int} {m : Mem} (hl : s.length ≤ 100000) {Q : D → Mem → Prop} (q : Q (.bl (betw lo hi s)) m) : W (f_is_between [.str s, .tup [.int lo, .int hi]] m) Q := by
  refine w_fn (ρ := [some (.str s), some (.tup [.int lo, .int hi]), none, none, none]) rfl rfl ?_
  unfold b_is_between k_MOST_FIGURES
  unfold betw at q
  (repeat (walk_at "vi.s0"))
  refine w_call ?_
  (repeat (walk_at "vi.s0"))
  refine st_number_of hl ?_
  (repeat (walk_at "vi.s0"))
  cases hn : isNum s with
  | false =>
    rw [hn] at q
    rw [if_neg (by simp)]
    refine ⟨.bl false, rfl, ?_⟩
    refine ⟨_, rfl, ifq_f ?_⟩
    exact q
  | true =>
    rw [hn, Bool.true_and] at q
    rw [if_pos rfl]
    refine ⟨.bl true, rfl, ?_⟩
    refine ⟨_, rfl, ifq_t ?_⟩
    (repeat (walk_at "vi.s0"))
    refine ifq_d (fun h => ?_) (fun h => ?_)
    · rw [decide_eq_true h, Bool.true_and] at q
      (repeat (walk_at "vi.s0"))
      exact q
    · rw [decide_eq_false h, Bool.false_and] at q
      exact q
end Law
end
section
set_option maxHeartbeats 1000000
open PySem VI
namespace Law
/-! parts: a number, /, a number -/
theorem find_app {t p r : List Nat} {c d : Nat} (hd : t[d]? = some c) (hu : ∀ j, j < d → t[j]? ≠ some c) (hp : c ∉ p) : findL t (p ++ (t ++ r)) = some p.length := by
  have ht : t ≠ [] := fun e => by rw [e] at hd; cases hd
  refine find_some ht ?_ fun k hk hA => ?_
  · show ((p ++ (t ++ r)).drop p.length).take t.length = t
    rw [List.drop_left, List.take_left]
  · have hdl : d < t.length := (List.getElem?_eq_some_iff.mp hd).1
    have h1 : (((p ++ (t ++ r)).drop k).take t.length)[d]? = some c := by rw [hA]; exact hd
    rw [List.getElem?_take_of_lt hdl, List.getElem?_drop] at h1
    by_cases h2 : k + d < p.length
    · rw [List.getElem?_append_left h2] at h1
      exact hp (List.mem_of_getElem? h1)
    · rw [List.getElem?_append_right (by omega), List.getElem?_append_left (by omega)] at h1
      exact hu _ (by omega) h1
def isPart (s : List Nat) : Bool := match findL [47] s with
  | none => false
  | some i => betw 1 12 (s.drop (i + 1)) && betw 1 (numV (s.drop (i + 1))) (s.take i)
def partW (n m : Nat) : List Nat := numW (n : Int) ++ (47 :: numW (m : Int))
def partRow (m : Nat) : List (List Nat) := (List.range m).map fun n => partW (n + 1) m
def partsW : List (List Nat) := ((List.range 12).map fun m => partRow (m + 1)).flatten
theorem no47 {i : Int} (h : i.natAbs < 1000) : 47 ∉ numW i := fun hm => by
  have := numW_signs h 47 hm
  omega
theorem betw_iff {lo hi : Int} {s : List Nat} : betw lo hi s = true ↔ ∃ i : Int, i.natAbs < 1000 ∧ s = numW i ∧ lo ≤ i ∧ i ≤ hi := by
  unfold betw
  rw [Bool.and_eq_true, Bool.and_eq_true, decide_eq_true_iff, decide_eq_true_iff, num_iff]
  constructor
  · rintro ⟨⟨i, hi1, rfl⟩, h3, h4⟩
    rw [(num_W hi1).2] at h3 h4
    exact ⟨i, hi1, rfl, h3, h4⟩
  · rintro ⟨i, hi1, rfl, h3, h4⟩
    rw [(num_W hi1).2]
    exact ⟨⟨i, hi1, rfl⟩, h3, h4⟩
theorem isPart_mem (s : List Nat) : isPart s = decide (s ∈ partsW) := by
  rw [Bool.eq_iff_iff, decide_eq_true_iff]
  unfold isPart
  constructor
  · intro h
    cases hf : findL [47] s with
    | none => rw [hf] at h; cases h
    | some i =>
      rw [hf] at h
      dsimp only at h
      rw [Bool.and_eq_true] at h
      obtain ⟨h1, h2⟩ := h
      obtain ⟨j, hj, ej, j1, j2⟩ := betw_iff.mp h1
      rw [ej, (num_W hj).2] at h2
      obtain ⟨k, hk, ek, k1, k2⟩ := betw_iff.mp h2
      obtain ⟨hA, hi, _⟩ := findL_some hf
      have e : s = s.take i ++ (47 :: s.drop (i + 1)) := by
        have h3 : s.drop i = [47] ++ s.drop (i + 1) := by
          have := List.take_append_drop 1 (s.drop i)
          rw [List.drop_drop] at this
          rw [← this]
          have h4 : (s.drop i).take 1 = [47] := hA
          rw [h4]
        have := List.take_append_drop i s
        rw [h3] at this
        exact this.symm
      refine List.mem_flatten.mpr ⟨partRow j.toNat, List.mem_map.mpr ⟨j.toNat - 1, List.mem_range.mpr (by omega), by rw [show j.toNat - 1 + 1 = j.toNat by omega]⟩, List.mem_map.mpr ⟨k.toNat - 1, List.mem_range.mpr (by omega), ?_⟩⟩
      rw [e, ej, ek]
      unfold partW
      rw [show ((k.toNat - 1 + 1 : Nat) : Int) = k by omega, show ((j.toNat : Nat) : Int) = j by omega]
  · intro h
    obtain ⟨row, hr, hs⟩ := List.mem_flatten.mp h
    obtain ⟨m, hm, rfl⟩ := List.mem_map.mp hr
    obtain ⟨n, hn, rfl⟩ := List.mem_map.mp hs
    have hm := List.mem_range.mp hm
    have hn := List.mem_range.mp hn
    have hb1 : (((n + 1 : Nat)) : Int).natAbs < 1000 := by omega
    have hb2 : (((m + 1 : Nat)) : Int).natAbs < 1000 := by omega
    have hf : findL [47] (partW (n + 1) (m + 1)) = some (numW ((n + 1 : Nat) : Int)).length := find_app (t := [47]) (c := 47) (d := 0) rfl (fun j hj => absurd hj (Nat.not_lt_zero _)) (no47 hb1)
    rw [hf]
    dsimp only
    have e1 : (partW (n + 1) (m + 1)).take (numW ((n + 1 : Nat) : Int)).length = numW ((n + 1 : Nat) : Int) := List.take_left
    have e2 : (partW (n + 1) (m + 1)).drop ((numW ((n + 1 : Nat) : Int)).length + 1) = numW ((m + 1 : Nat) : Int) := by
      unfold partW
      rw [← List.drop_drop, List.drop_left]
      rfl
    rw [e1, e2, Bool.and_eq_true]
    exact ⟨betw_iff.mpr ⟨_, hb2, rfl, by omega, by omega⟩, betw_iff.mpr ⟨_, hb1, rfl, by omega, by rw [(num_W hb2).2]; omega⟩⟩
section
variable {m : Mem} {Q : D → Mem → Prop}
theorem st_is_part {s : List Nat} (hl : s.length ≤ 100000) (q : Q (.bl (isPart s)) m) : W (f_is_part [.str s] m) Q := by
  refine w_fn (ρ := [some (.str s), none, none, none]) rfl rfl ?_
  unfold b_is_part k_MOST_PARTS
  unfold isPart at q
  (repeat (walk_at "vi.s0"))
  cases hf : findL [47] s with
  | none =>
    rw [hf] at q
    refine q_part0 (by simp) (by omega) hf ?_
    (repeat (walk_at "vi.s0"))
    refine w_call ?_
    (repeat (walk_at "vi.s0"))
    refine st_is_between (by simp) ?_
    have e : betw 1 12 [] = false := by
      unfold betw
      have : isNum [] = false := rfl
      rw [this, Bool.false_and]
    rw [e]
    refine blq (ifq_f ?_)
    exact q
  | some i =>
    rw [hf] at q
    dsimp only at q
    refine q_part1 (by simp) (by omega) hf ?_
    have hd : (s.drop (i + [47].length)) = s.drop (i + 1) := rfl
    rw [hd]
    have l1 : (s.drop (i + 1)).length ≤ 100000 := by rw [List.length_drop]; omega
    have l2 : (s.take i).length ≤ 100000 := by rw [List.length_take]; omega
    (repeat (walk_at "vi.s0"))
    refine w_call ?_
    (repeat (walk_at "vi.s0"))
    refine st_is_between l1 ?_
    refine blq ⟨fun hb => ?_, fun hb => ?_⟩
    · rw [hb, Bool.true_and] at q
      (repeat (walk_at "vi.s0"))
      refine w_call ?_
      (repeat (walk_at "vi.s0"))
      have hb2 := hb
      unfold betw at hb2
      rw [Bool.and_eq_true] at hb2
      have hn := hb2.1
      unfold isNum at hn
      simp only [Bool.and_eq_true, Bool.not_eq_true', decide_eq_true_eq, decide_eq_false_iff_not] at hn
      obtain ⟨⟨⟨h1, h2⟩, h3⟩, h4⟩ := hn
      obtain ⟨d1, d2, d3⟩ := num_def h1 h2 h3
      refine q_intS (by omega) d1 ?_
      (repeat (walk_at "vi.s0"))
      exact st_is_between l2 q
    · rw [hb, Bool.false_and] at q
      exact q
end
/-! which values a property has -/
def inh : List Nat := lit3e26d6
def pWidth : List Nat := [119, 105, 100, 116, 104]
def autoW : List Nat := [97, 117, 116, 111]
def kW : List (List Nat × List (List Nat)) := [([97, 108, 105, 103, 110], [[108, 101, 102, 116], [99, 101, 110, 116, 101, 114], [114, 105, 103, 104, 116]]), ([98, 97, 99, 107], [[99, 108, 101, 97, 114], [98, 108, 97, 99, 107], [114, 101, 100], [103, 114, 101, 101, 110], [98, 108, 117, 101]]), ([99, 111, 108, 111, 114], [[98, 108, 97, 99, 107], [114, 101, 100], [103, 114, 101, 101, 110], [98, 108, 117, 101]]), (lit59b189, [[98, 108, 111, 99, 107], [105, 110, 108, 105, 110, 101], [110, 111, 110, 101]]), ([104, 105, 100, 101], [[121, 101, 115], [110, 111]]), (pWidth, [autoW])]
def kB : List (List Nat × (Int × Int)) := [([98, 111, 114, 100, 101, 114], (0, 1)), ([100, 111, 119, 110], (-50, 50)), ([108, 97, 121, 101, 114], (-9, 9)), ([109, 97, 114, 103, 105, 110], (0, 20)), ([112, 97, 100], (0, 20)), ([114, 105, 103, 104, 116], (-50, 50)), (pWidth, (0, 200))]
def tW (ws : List (List Nat)) : D := .tup (ws.map D.str)
def tB (b : Int × Int) : D := .tup [.int b.1, .int b.2]
theorem kW_eq : kd_WORDS = kW.map fun p => (p.1, tW p.2) := rfl
theorem kB_eq : kd_BOUNDS = kB.map fun p => (p.1, tB p.2) := rfl
theorem lookup_map {α β : Type} (f : α → β) (z : List Nat) : ∀ xs : List (List Nat × α), (xs.map fun p => (p.1, f p.2)).lookup z = (xs.lookup z).map f
  | [] => rfl
  | (k, v) :: r => by
    rw [List.map_cons, List.lookup_cons, List.lookup_cons]
    show (match z == k with | true => some (f v) | false => (r.map fun p => (p.1, f p.2)).lookup z) = Option.map f (match z == k with | true => some v | false => r.lookup z)
    cases z == k
    · exact lookup_map f z r
    · rfl
theorem lookup_no {α : Type} {z : List Nat} : ∀ {xs : List (List Nat × α)}, z ∉ xs.map (·.1) → xs.lookup z = none
  | [], _ => rfl
  | (k, v) :: r, h => by
    rw [List.map_cons, List.mem_cons] at h
    rw [List.lookup_cons]
    split
    · rename_i e
      exact absurd (.inl (by simpa using e)) h
    · exact lookup_no fun g => h (.inr g)
def wordsOf (n : List Nat) : List (List Nat) := (kW.lookup n).getD []
def hasP (n v : List Nat) : Bool :=
  if (kW.lookup n).isSome = false ∧ (kB.lookup n).isSome = false then false
  else if v = inh ∨ v ∈ wordsOf n then true
  else if n = pWidth ∧ 47 ∈ v then isPart v
  else match kB.lookup n with
    | some b => betw b.1 b.2 v
    | none => false
section
variable {m : Mem} {Q : D → Mem → Prop}
theorem st_has_value {n v : List Nat} (hl : v.length ≤ 100000) (q : Q (.bl (hasP n v)) m) : W (f_has_value [.str n, .str v] m) Q := by
  refine w_fn (ρ := [some (.str n), some (.str v)]) rfl rfl ?_
  unfold b_has_value
  have eW : (kd_WORDS.lookup n).isSome = (kW.lookup n).isSome := by rw [kW_eq, lookup_map]; cases kW.lookup n <;> rfl
  have eB : (kd_BOUNDS.lookup n).isSome = (kB.lookup n).isSome := by rw [kB_eq, lookup_map]; cases kB.lookup n <;> rfl
  have eG : (kd_WORDS.lookup n).getD (.tup []) = tW (wordsOf n) := by unfold wordsOf; rw [kW_eq, lookup_map]; cases kW.lookup n <;> rfl
  -- behind the first look
  have rest : ¬ ((kW.lookup n).isSome = false ∧ (kB.lookup n).isSome = false) → W (bSeq (bIf (tOr (tV (eOp oEq (eVar 1) (eC (.str lit3e26d6)))) (tV (eOp oIn (eVar 1) (eGetK kd_WORDS (eVar 0) (eTup (aNil)))))) (bRet (eC (.bl true))) (bNil)) (bSeq (bIf (tAnd (tV (eOp oEq (eVar 0) (eC (.str [119, 105, 100, 116, 104])))) (tV (eOp oIn (eC (.str [47])) (eVar 1)))) (bRet (eCall f_is_part (aCons (eVar 1) (aNil)))) (bNil)) (bRet (eAnd (eInK false kd_BOUNDS (eVar 0)) (eCall f_is_between (aCons (eVar 1) (aCons (eIxK kd_BOUNDS (eVar 0)) (aNil)))))))
      [some (.str n), some (.str v)] m) (retQ Q) := by
    intro h0
    unfold hasP at q
    rw [if_neg h0] at q
    (repeat (walk_at "vi.s0"))
    refine ifq_d (fun h1 => ?_) (fun h1 => ?_)
    · rw [if_pos (.inl h1)] at q
      (repeat (walk_at "vi.s0"))
      exact q
    · (repeat (walk_at "vi.s0"))
      refine w_getK ?_
      (repeat (walk_at "vi.s0"))
      rw [eG]
      refine q_inT (wordsOf n) rfl ?_
      (repeat (walk_at "vi.s0"))
      refine ifq_d (fun h2 => ?_) (fun h2 => ?_)
      · rw [if_pos (.inr h2)] at q
        (repeat (walk_at "vi.s0"))
        exact q
      · rw [if_neg (fun g => g.elim h1 h2)] at q
        have rest2 : ¬ (n = pWidth ∧ 47 ∈ v) → W (eInK false kd_BOUNDS (eVar 0) [some (.str n), some (.str v)] m) (blQ fun v' m1 => ifQ v' (W (eCall f_is_between (aCons (eVar 1) (aCons (eIxK kd_BOUNDS (eVar 0)) (aNil))) [some (.str n), some (.str v)] m1) fun d m1 => retQ Q (.rt d) m1) (retQ Q (.rt (.bl false)) m1)) := by
          intro h3
          rw [if_neg h3] at q
          refine w_inK ?_
          (repeat (walk_at "vi.s0"))
          rw [eB]
          cases hk : kB.lookup n with
          | none =>
            rw [hk] at q
            refine ifq_f ?_
            exact q
          | some bb =>
            rw [hk] at q
            refine ifq_t ?_
            refine w_call ?_
            (repeat (walk_at "vi.s0"))
            refine w_ixK ?_
            (repeat (walk_at "vi.s0"))
            refine ⟨n, tB bb, rfl, by rw [kB_eq, lookup_map, hk]; rfl, ?_⟩
            (repeat (walk_at "vi.s0"))
            exact st_is_between hl q
        (repeat (walk_at "vi.s0"))
        refine ifq_d (fun h3 => ?_) (fun h3 => ?_)
        · (repeat (walk_at "vi.s0"))
          refine ifq_d (fun h4 => ?_) (fun h4 => ?_)
          · rw [if_pos ⟨h3, h4⟩] at q
            (repeat (walk_at "vi.s0"))
            refine w_call ?_
            (repeat (walk_at "vi.s0"))
            exact st_is_part hl q
          · (repeat (walk_at "vi.s0"))
            exact rest2 fun g => h4 g.2
        · (repeat (walk_at "vi.s0"))
          exact rest2 fun g => h3 g.1
  refine w_seq ?_
  refine w_bif ?_
  refine w_tand ?_
  refine w_tv ?_
  refine w_inK ?_
  refine w_var rfl ?_
  refine ⟨n, rfl, ?_⟩
  rw [eW]
  refine blq ?_
  cases hW : (kW.lookup n).isSome with
  | true =>
    refine ifq_f ?_
    refine ifq_f ?_
    refine w_bnil ?_
    refine seq_nx ?_
    exact rest fun g => by rw [hW] at g; cases g.1
  | false =>
    refine ifq_t ?_
    refine w_tv ?_
    refine w_inK ?_
    refine w_var rfl ?_
    refine ⟨n, rfl, ?_⟩
    rw [eB]
    refine blq ?_
    cases hB : (kB.lookup n).isSome with
    | true =>
      refine ifq_f ?_
      refine w_bnil ?_
      refine seq_nx ?_
      exact rest fun g => by rw [hB] at g; cases g.2
    | false =>
      refine ifq_t ?_
      unfold hasP at q
      rw [if_pos ⟨hW, hB⟩] at q
      (repeat (walk_at "vi.s0"))
      exact q
end
end Law
end
section
set_option maxHeartbeats 1000000
open PySem VI
namespace Law
/-! all values, as the law goes through them -/
def propsL : List (List Nat) := [[97, 108, 105, 103, 110], [98, 97, 99, 107], [98, 111, 114, 100, 101, 114], [99, 111, 108, 111, 114], lit59b189, [100, 111, 119, 110], [104, 105, 100, 101], [108, 97, 121, 101, 114], [109, 97, 114, 103, 105, 110], [112, 97, 100], [114, 105, 103, 104, 116], pWidth]
def kC : List (List Nat × List (List Nat)) := [([97, 108, 105, 103, 110], [[108, 101, 102, 116], [99, 101, 110, 116, 101, 114], [114, 105, 103, 104, 116]]), ([98, 97, 99, 107], [[99, 108, 101, 97, 114], [98, 108, 97, 99, 107], [114, 101, 100], [103, 114, 101, 101, 110], [98, 108, 117, 101]]), ([98, 111, 114, 100, 101, 114], [[48], [49]]), ([99, 111, 108, 111, 114], [[98, 108, 97, 99, 107], [114, 101, 100], [103, 114, 101, 101, 110], [98, 108, 117, 101]]), (lit59b189, [[98, 108, 111, 99, 107], [105, 110, 108, 105, 110, 101], [110, 111, 110, 101]]), ([104, 105, 100, 101], [[110, 111], [121, 101, 115]])]
def kL : List (List Nat × (Int × Int)) := [([100, 111, 119, 110], (-50, 50)), ([108, 97, 121, 101, 114], (-9, 9)), ([109, 97, 114, 103, 105, 110], (0, 20)), ([112, 97, 100], (0, 20)), ([114, 105, 103, 104, 116], (-50, 50))]
def choicesOf (n : List Nat) : List (List Nat) := (kC.lookup n).getD []
def boundsOf (n : List Nat) : Int × Int := (kL.lookup n).getD (0, 200)
def fracsW : List (List Nat) := ((List.range 12).map fun m => autoW :: partRow (m + 1)).flatten
def valuesOf (n : List Nat) : List (List Nat) :=
  if n ∉ propsL then [] else if 1 < (inh :: choicesOf n).length then inh :: choicesOf n
  else (inh :: choicesOf n) ++ intsW (boundsOf n).1 (boundsOf n).2 ++ (if n = pWidth then fracsW else [])
theorem fracs_mem {v : List Nat} : v ∈ fracsW ↔ v = autoW ∨ v ∈ partsW := by
  unfold fracsW partsW
  constructor
  · intro h
    obtain ⟨row, hr, hs⟩ := List.mem_flatten.mp h
    obtain ⟨m, hm, rfl⟩ := List.mem_map.mp hr
    rcases List.mem_cons.mp hs with h | h
    · exact .inl h
    · exact .inr (List.mem_flatten.mpr ⟨_, List.mem_map.mpr ⟨m, hm, rfl⟩, h⟩)
  · rintro (rfl | h)
    · exact List.mem_flatten.mpr ⟨_, List.mem_map.mpr ⟨0, List.mem_range.mpr (by omega), rfl⟩, List.mem_cons_self⟩
    · obtain ⟨row, hr, hs⟩ := List.mem_flatten.mp h
      obtain ⟨m, hm, rfl⟩ := List.mem_map.mp hr
      exact List.mem_flatten.mpr ⟨_, List.mem_map.mpr ⟨m, hm, rfl⟩, List.mem_cons_of_mem _ hs⟩
theorem ints_no47 {lo hi : Int} (h1 : -1000 < lo) (h2 : hi < 1000) {v : List Nat} (h : v ∈ intsW lo hi) : 47 ∉ v := by
  unfold intsW at h
  obtain ⟨k, hk, rfl⟩ := List.mem_map.mp h
  have := List.mem_range.mp hk
  exact no47 (by omega)
theorem hasP_words {n v : List Nat} {ws : List (List Nat)} (h1 : kW.lookup n = some ws) (h2 : kB.lookup n = none) (h3 : n ≠ pWidth) : hasP n v = decide (v = inh ∨ v ∈ ws) := by
  unfold hasP wordsOf
  rw [h1, h2, if_neg (fun g => by cases g.1)]
  by_cases h : v = inh ∨ v ∈ ws
  · rw [decide_eq_true h]
    exact if_pos h
  · rw [decide_eq_false h]
    refine (if_neg h).trans ?_
    rw [if_neg (fun g => h3 g.1)]
theorem hasP_num {n v : List Nat} {b : Int × Int} (h1 : kW.lookup n = none) (h2 : kB.lookup n = some b) (h3 : n ≠ pWidth) (b1 : -1000 < b.1) (b2 : b.2 < 1000) : hasP n v = decide (v = inh ∨ v ∈ intsW b.1 b.2) := by
  unfold hasP wordsOf
  rw [h1, h2, if_neg (fun g => by cases g.2)]
  by_cases h : v = inh
  · rw [decide_eq_true (.inl h)]
    exact if_pos (.inl h)
  · refine (if_neg (fun g => g.elim h (fun g => by cases g))).trans ?_
    rw [if_neg (fun g => h3 g.1)]
    dsimp only
    rw [betw_mem b1 b2]
    exact decide_eq_decide.mpr ⟨.inr, fun g => g.resolve_left h⟩
theorem hasP_width {v : List Nat} : hasP pWidth v = decide (v = inh ∨ v ∈ intsW 0 200 ∨ v ∈ fracsW) := by
  unfold hasP
  rw [if_neg (by decide)]
  have e1 : wordsOf pWidth = [autoW] := by decide
  rw [e1]
  by_cases h : v = inh ∨ v ∈ [autoW]
  · rw [if_pos h, decide_eq_true]
    rcases h with h | h
    · exact .inl h
    · exact .inr (.inr (fracs_mem.mpr (.inl (List.mem_singleton.mp h))))
  · rw [if_neg h]
    have h1 : ¬ v = inh := fun g => h (.inl g)
    have h2 : ¬ v = autoW := fun g => h (.inr (by rw [g]; exact List.mem_singleton.mpr rfl))
    by_cases h3 : 47 ∈ v
    · rw [if_pos ⟨rfl, h3⟩, isPart_mem]
      apply decide_eq_decide.mpr
      constructor
      · exact fun g => .inr (.inr (fracs_mem.mpr (.inr g)))
      · rintro (g | g | g)
        · exact absurd g h1
        · exact absurd h3 (ints_no47 (by omega) (by omega) g)
        · exact (fracs_mem.mp g).resolve_left h2
    · rw [if_neg (fun g => h3 g.2)]
      have e2 : kB.lookup pWidth = some (0, 200) := by decide
      rw [e2]
      dsimp only
      rw [betw_mem (by omega) (by omega)]
      apply decide_eq_decide.mpr
      constructor
      · exact fun g => .inr (.inl g)
      · rintro (g | g | g)
        · exact absurd g h1
        · exact g
        · rcases fracs_mem.mp g with e | g
          · exact absurd e h2
          · exfalso
            unfold partsW at g
            obtain ⟨row, hr, hs⟩ := List.mem_flatten.mp g
            obtain ⟨m, hm, rfl⟩ := List.mem_map.mp hr
            obtain ⟨k, hk, rfl⟩ := List.mem_map.mp hs
            exact h3 (by unfold partW; simp)
theorem hasP_no {n v : List Nat} (h : n ∉ propsL) : hasP n v = false := by
  have h1 : kW.lookup n = none := lookup_no fun g => h ((by decide : ∀ x ∈ kW.map (·.1), x ∈ propsL) n g)
  have h2 : kB.lookup n = none := lookup_no fun g => h ((by decide : ∀ x ∈ kB.map (·.1), x ∈ propsL) n g)
  unfold hasP
  rw [h1, h2, if_pos ⟨rfl, rfl⟩]
theorem valuesW {n : List Nat} {ws : List (List Nat)} (h0 : n ∈ propsL) (h1 : kC.lookup n = some ws) (h2 : ws ≠ []) : valuesOf n = inh :: ws := by
  unfold valuesOf choicesOf
  rw [if_neg (fun g => g h0), h1]
  have : 1 < (inh :: (some ws).getD []).length := by
    have := List.length_pos_iff.mpr h2
    show 1 < ws.length + 1
    omega
  rw [if_pos this]
  rfl
theorem valuesN {n : List Nat} {b : Int × Int} (h0 : n ∈ propsL) (h1 : kC.lookup n = none) (h2 : boundsOf n = b) (h3 : n ≠ pWidth) : valuesOf n = inh :: intsW b.1 b.2 := by
  unfold valuesOf choicesOf
  rw [if_neg (fun g => g h0), h1, if_neg (by simp), h2, if_neg h3, List.append_nil]
  rfl
theorem values_width : valuesOf pWidth = inh :: (intsW 0 200 ++ fracsW) := by
  unfold valuesOf
  rw [if_neg (fun g => g (by decide))]
  have e1 : choicesOf pWidth = [] := by decide
  have e2 : boundsOf pWidth = (0, 200) := by decide
  rw [e1, if_neg (by simp), e2, if_pos rfl]
  rfl
/-- a property has just the values that the law goes through -/
theorem hasP_mem (n v : List Nat) : hasP n v = decide (v ∈ valuesOf n) := by
  by_cases h : n ∈ propsL
  · have words : ∀ {n : List Nat} {ws vs : List (List Nat)}, n ∈ propsL → kW.lookup n = some ws → kB.lookup n = none → n ≠ pWidth → kC.lookup n = some vs → vs ≠ [] → (∀ x, x ∈ ws ↔ x ∈ vs) → hasP n v = decide (v ∈ valuesOf n) := by
      intro n ws vs a1 a2 a3 a4 a5 a6 a7
      rw [hasP_words a2 a3 a4, valuesW a1 a5 a6]
      apply decide_eq_decide.mpr
      rw [List.mem_cons, a7]
    have nums : ∀ {n : List Nat} {b : Int × Int}, n ∈ propsL → kW.lookup n = none → kB.lookup n = some b → n ≠ pWidth → kC.lookup n = none → boundsOf n = b → -1000 < b.1 → b.2 < 1000 → hasP n v = decide (v ∈ valuesOf n) := by
      intro n b a1 a2 a3 a4 a5 a6 a7 a8
      rw [hasP_num a2 a3 a4 a7 a8, valuesN a1 a5 a6 a4]
      apply decide_eq_decide.mpr
      rw [List.mem_cons]
    unfold propsL at h
    simp only [List.mem_cons, List.not_mem_nil, or_false] at h
    rcases h with rfl | rfl | rfl | rfl | rfl | rfl | rfl | rfl | rfl | rfl | rfl | rfl
    · exact words (by decide) rfl rfl (by decide) rfl (by simp) fun _ => Iff.rfl
    · exact words (by decide) rfl rfl (by decide) rfl (by simp) fun _ => Iff.rfl
    · rw [hasP_num (b := (0, 1)) rfl rfl (by decide) (by decide) (by decide), valuesW (by decide) (ws := [[48], [49]]) rfl (by simp)]
      apply decide_eq_decide.mpr
      rw [List.mem_cons]
      exact Iff.rfl
    · exact words (by decide) rfl rfl (by decide) rfl (by simp) fun _ => Iff.rfl
    · exact words (by decide) rfl rfl (by decide) rfl (by simp) fun _ => Iff.rfl
    · exact nums (b := (-50, 50)) (by decide) rfl rfl (by decide) rfl rfl (by decide) (by decide)
    · refine words (ws := [[121, 101, 115], [110, 111]]) (vs := [[110, 111], [121, 101, 115]]) (by decide) rfl rfl (by decide) rfl (by simp) fun x => ?_
      simp only [List.mem_cons, List.not_mem_nil, or_false]
      exact ⟨fun h => h.symm, fun h => h.symm⟩
    · exact nums (b := (-9, 9)) (by decide) rfl rfl (by decide) rfl rfl (by decide) (by decide)
    · exact nums (b := (0, 20)) (by decide) rfl rfl (by decide) rfl rfl (by decide) (by decide)
    · exact nums (b := (0, 20)) (by decide) rfl rfl (by decide) rfl rfl (by decide) (by decide)
    · exact nums (b := (-50, 50)) (by decide) rfl rfl (by decide) rfl rfl (by decide) (by decide)
    · rw [hasP_width, values_width]
      apply decide_eq_decide.mpr
      rw [List.mem_cons, List.mem_append]
  · rw [hasP_no h]
    unfold valuesOf
    rw [if_pos h]
    rfl
end Law
end
section
namespace VI
open PySem PySem.Spec PyProof.Rows
/-! a text cut at any text -/
theorem tx_S (l : List Nat) : SX.S l = VI.S l := rfl
theorem splitL_spl {a b : List Nat} (hb : b ≠ []) (hk : b.all (· < 256) = true) : splitL a b = TL.spl b 0 [] a := by
  unfold splitL
  have e : Txt.split (VI.S a) (VI.S b) = (TL.spl b 0 [] a).map VI.S := SX.split_S hb hk
  rw [e, List.map_map]
  have : ((fun x : Str => x.cps.toList) ∘ VI.S) = id := by funext l; exact S_tl l
  rw [this, List.map_id]
theorem splitL_of {s : Nat} {b : List Nat} {parts : List (List Nat)} (hk : (s :: b).all (· < 256) = true) (hn : parts ≠ []) (h : ∀ p ∈ parts, s ∉ p) : splitL (TL.joinL (s :: b) parts) (s :: b) = parts := by
  rw [splitL_spl (by simp) hk]
  exact TL.spl_join hn h
theorem joinD_L (a : List Nat) (ys : List (List Nat)) : joinD a ys = TL.joinL a ys := by
  unfold joinD
  have e : Txt.join (VI.S a) (ys.map VI.S) = VI.S (TL.joinL a ys) := SX.join_S a ys
  rw [e, S_tl]
theorem splitL_sum (s t : List Nat) (ht : t ≠ []) : ((splitL s t).map (·.length)).sum + (splitL s t).length ≤ s.length + 1 := by
  have h := split_weight (VI.S s) (VI.S t) (by rw [S_len]; exact List.length_pos_iff.mpr ht)
  unfold splitL
  rw [List.map_map, List.length_map]
  have e : ((fun x : List Nat => x.length) ∘ fun x : Str => x.cps.toList) = fun x : Str => x.length := by
    funext x
    show x.cps.toList.length = x.length
    rw [Array.length_toList]; rfl
  rw [e]
  rw [S_len] at h
  exact h
theorem mem_sum {α : Type} {f : α → Nat} : ∀ {l : List α} {x : α}, x ∈ l → f x ≤ (l.map f).sum
  | y :: r, x, h => by
    rw [List.map_cons, List.sum_cons]
    rcases List.mem_cons.mp h with rfl | h
    · omega
    · have := mem_sum (f := f) h
      omega
theorem splitL_len {s t : List Nat} (ht : t ≠ []) : (splitL s t).length ≤ s.length + 1 := by
  have := splitL_sum s t ht
  omega
theorem splitL_part {s t p : List Nat} (ht : t ≠ []) (h : p ∈ splitL s t) : p.length ≤ s.length := by
  have h1 := splitL_sum s t ht
  have h2 := mem_sum (f := fun x : List Nat => x.length) h
  have h3 := List.length_pos_of_mem h
  omega
theorem splitL_ne (s t : List Nat) : splitL s t ≠ [] := by
  intro e
  have h := split_pos (VI.S s) (VI.S t)
  have e2 := congrArg List.length e
  unfold splitL at e2
  rw [List.length_map, List.length_nil] at e2
  omega
end VI
end
section
set_option maxHeartbeats 1000000
open PySem VI
namespace Law
/-! a declaration -/
def barred : List Nat := [59, 123, 125, 10]
def isValue (s : List Nat) : Bool := decide (s ≠ []) && (decide (stripL s [32] = s) && barred.all fun c => !decide (c ∈ s))
def declW (s : List Nat) : Option (List Nat × List Nat × Bool) := match findL [58, 32] s with
  | none => none
  | some i => if (isWord (s.take i) && isValue (if endsL (s.drop (i + 2)) [32, 33] then (s.drop (i + 2)).take ((s.drop (i + 2)).length - 2) else s.drop (i + 2))) = true then
      some (s.take i, (if endsL (s.drop (i + 2)) [32, 33] then (s.drop (i + 2)).take ((s.drop (i + 2)).length - 2) else s.drop (i + 2)), endsL (s.drop (i + 2)) [32, 33]) else none
def declD (x : List Nat × List Nat × Bool) : D := if hasP x.1 x.2.1 then .tup [.str x.1, .str x.2.1, .bl x.2.2] else .non
def declV (s : List Nat) : D := match declW s with
  | none => .tup [.bl false, .non]
  | some x => .tup [.bl true, declD x]
section
variable {m : Mem} {Q : D → Mem → Prop}
theorem st_is_value {s : List Nat} (hl : s.length ≤ 100000) (q : Q (.bl (isValue s)) m) : W (f_is_value [.str s] m) Q := by
  refine w_fn (ρ := [some (.str s), none]) rfl rfl ?_
  unfold b_is_value k_BARRED
  unfold isValue at q
  (repeat (walk_at "vi.s0"))
  refine ifq_d (fun h => ?_) (fun h => ?_)
  · rw [decide_eq_false (p := s ≠ []) (fun g => g h), Bool.false_and] at q
    (repeat (walk_at "vi.s0"))
    exact q
  rw [decide_eq_true (p := s ≠ []) h, Bool.true_and] at q
  (repeat (walk_at "vi.s0"))
  refine q_strip (by omega) ?_
  (repeat (walk_at "vi.s0"))
  refine ifq_d (fun h1 => ?_) (fun h1 => ?_)
  · rw [decide_eq_true h1, Bool.true_and] at q
    (repeat (walk_at "vi.s0"))
    refine w_for (fun i ρ m' => ∃ x1, ρ = [some (.str s), x1] ∧ m' = m ∧ ∀ c ∈ barred.take i, c ∉ s) ?_
    refine w_it ?_
    refine w_c ?_
    refine it_tup' ?_
    refine ⟨⟨none, rfl, rfl, fun c hc => by cases hc⟩, ?_, ?_⟩
    · rintro i d ρ m1 hd ⟨x1, rfl, rfl, hi⟩
      have hd2 : (barred.map fun c => D.str [c])[i]? = some d := hd
      rw [List.getElem?_map] at hd2
      obtain ⟨c, hc, rfl⟩ := Option.map_eq_some_iff.mp hd2
      (repeat (walk_at "vi.s0"))
      refine ifq_d (fun h2 => ?_) (fun h2 => ?_)
      · have : (barred.all fun c => !decide (c ∈ s)) = false := by
          rw [List.all_eq_false]
          exact ⟨c, List.mem_of_getElem? hc, by rw [decide_eq_true h2]; simp⟩
        rw [this] at q
        (repeat (walk_at "vi.s0"))
        exact q
      · (repeat (walk_at "vi.s0"))
        refine ⟨rfl, fun x hx => ?_⟩
        rw [List.take_add_one, hc] at hx
        rcases List.mem_append.mp hx with g | g
        · exact hi x g
        · rw [Option.toList_some, List.mem_singleton] at g
          rw [g]; exact h2
    · rintro ρ m1 ⟨x1, rfl, rfl, hi⟩
      have : (barred.all fun c => !decide (c ∈ s)) = true := by
        rw [List.all_eq_true]
        intro c hc
        rw [decide_eq_false (hi c hc)]
        rfl
      rw [this] at q
      (repeat (walk_at "vi.s0"))
      exact q
  · rw [decide_eq_false h1, Bool.false_and] at q
    (repeat (walk_at "vi.s0"))
    exact q
theorem st_declaration_of {s : List Nat} (hl : s.length ≤ 100000) (q : Q (declV s) m) : W (f_declaration_of [.str s] m) Q := by
  refine w_fn (ρ := [some (.str s), none, none, none, none]) rfl rfl ?_
  unfold b_declaration_of k_STRONG
  unfold declV declW at q
  cases hf : findL [58, 32] s with
  | none =>
    rw [hf] at q
    (repeat (walk_at "vi.s0"))
    refine q_part0 (by simp) (by omega) hf ?_
    (repeat (walk_at "vi.s0"))
    refine q_ends ?_
    (repeat (walk_at "vi.s0"))
    refine q_removesuffix (by simp) ?_
    rw [show (if endsL [] [32, 33] = true then ([] : List Nat).take (([] : List Nat).length - ([32, 33] : List Nat).length) else []) = [] from rfl]
    (repeat (walk_at "vi.s0"))
    refine w_call ?_
    (repeat (walk_at "vi.s0"))
    refine st_is_word hl ?_
    refine blq ⟨fun _ => ?_, fun _ => ?_⟩
    · (repeat (walk_at "vi.s0"))
      exact q
    · (repeat (walk_at "vi.s0"))
      refine w_call ?_
      (repeat (walk_at "vi.s0"))
      refine st_is_value (by simp) ?_
      rw [show isValue [] = false from rfl]
      (repeat (walk_at "vi.s0"))
      exact q
  | some i =>
    rw [hf] at q
    dsimp only at q
    have l0 : (s.take i).length ≤ 100000 := by rw [List.length_take]; omega
    have l1 : (s.drop (i + 2)).length ≤ 100000 := by rw [List.length_drop]; omega
    (repeat (walk_at "vi.s0"))
    refine q_part1 (by simp) (by omega) hf ?_
    rw [show i + ([58, 32] : List Nat).length = i + 2 from rfl]
    generalize s.take i = n at q l0 ⊢
    generalize s.drop (i + 2) = v at q l1 ⊢
    (repeat (walk_at "vi.s0"))
    refine q_ends ?_
    (repeat (walk_at "vi.s0"))
    refine q_removesuffix (by omega) ?_
    have l2 : (if endsL v [32, 33] = true then v.take (v.length - 2) else v).length ≤ 100000 := by
      split
      · rw [List.length_take]; omega
      · exact l1
    rw [show ([32, 33] : List Nat).length = 2 from rfl]
    generalize (if endsL v [32, 33] = true then v.take (v.length - 2) else v) = v' at q l2 ⊢
    generalize endsL v [32, 33] = st at q ⊢
    (repeat (walk_at "vi.s0"))
    refine w_call ?_
    (repeat (walk_at "vi.s0"))
    refine st_is_word l0 ?_
    cases hw : isWord n with
    | false =>
      rw [hw, Bool.false_and, if_neg (by simp)] at q
      refine blq ?_
      (repeat (walk_at "vi.s0"))
      exact q
    | true =>
      rw [hw, Bool.true_and] at q
      refine blq ?_
      (repeat (walk_at "vi.s0"))
      refine w_call ?_
      (repeat (walk_at "vi.s0"))
      refine st_is_value l2 ?_
      cases hv : isValue v' with
      | false =>
        rw [hv, if_neg (by simp)] at q
        refine blq ?_
        (repeat (walk_at "vi.s0"))
        exact q
      | true =>
        rw [hv, if_pos rfl] at q
        refine blq ?_
        (repeat (walk_at "vi.s0"))
        refine w_call ?_
        (repeat (walk_at "vi.s0"))
        refine st_has_value l2 ?_
        unfold declD at q
        dsimp only at q
        cases hp : hasP n v' with
        | false =>
          rw [hp, if_neg (by simp)] at q
          refine blq ?_
          (repeat (walk_at "vi.s0"))
          exact q
        | true =>
          rw [hp, if_pos rfl] at q
          refine blq ?_
          (repeat (walk_at "vi.s0"))
          exact q
end
end Law
end
section
set_option maxHeartbeats 1000000
open PySem VI
namespace Law
/-! one test of a selector -/
def sFirst : List Nat := [58, 102, 105, 114, 115, 116]
def valS : List Nat := lit6e3145 ++ lit87acec
def isVal (v : List Nat) : Prop := v ≠ [] ∧ v.length ≤ 12 ∧ ∀ c ∈ v, c ∈ valS
inductive TestT : List Nat → List (List Nat) → Prop
  | first : TestT sFirst [sFirst, [], []]
  | idT (w : List Nat) (h : isWord w = true) : TestT (35 :: w) [[35], [105, 100], w]
  | clsT (w : List Nat) (h : isWord w = true) : TestT (46 :: w) [[46], [99, 108, 97, 115, 115], w]
  | hasT (w : List Nat) (h : isWord w = true) : TestT (91 :: (w ++ [93])) [[91], w, []]
  | eqT (w v : List Nat) (h : isWord w = true) (hv : isVal v) : TestT (91 :: (w ++ (61 :: (v ++ [93])))) [[61], w, v]
def calmH (r : List Nat) : Prop := ∀ c, r.head? = some c → isL c = false
theorem isWord_iff {w : List Nat} (h : isWord w = true) : 1 ≤ w.length ∧ w.length ≤ 12 ∧ w.head? ≠ some 45 ∧ ∀ c ∈ w, isL c = true := by
  unfold isWord at h
  simp only [Bool.and_eq_true, decide_eq_true_eq, Bool.not_eq_true', decide_eq_false_iff_not, List.all_eq_true] at h
  exact ⟨h.1.1.1, h.1.1.2, h.1.2, fun c hc => decide_eq_true (h.2 c hc)⟩
theorem tw_app {p : Nat → Bool} : ∀ {w r : List Nat}, (∀ c ∈ w, p c = true) → (∀ c, r.head? = some c → p c = false) → (w ++ r).takeWhile p = w
  | [], [], _, _ => rfl
  | [], c :: r, _, h => by
    rw [List.nil_append, List.takeWhile_cons, h c rfl]
    rfl
  | c :: w, r, h, g => by
    rw [List.cons_append, List.takeWhile_cons, if_pos (h c List.mem_cons_self), tw_app (fun x hx => h x (List.mem_cons_of_mem _ hx)) g]
theorem wordAt_app {s w r : List Nat} {a : Nat} (hs : s.drop a = w ++ r) (h : isWord w = true) (hr : calmH r) : wordAt s a = w := by
  obtain ⟨h1, h2, h3, h4⟩ := isWord_iff h
  unfold wordAt
  rw [hs, tw_app h4 hr, if_neg (fun g => g.elim (fun g => by omega) h3)]
theorem at_head {s r : List Nat} {c a : Nat} (h : s.drop a = c :: r) : s[a]? = some c ∧ s.drop (a + 1) = r := by
  constructor
  · have : (s.drop a)[0]? = some c := by rw [h]; rfl
    rw [List.getElem?_drop] at this
    exact this
  · rw [← List.drop_drop, h]; rfl
theorem drop_more {s w r : List Nat} {a : Nat} (h : s.drop a = w ++ r) : s.drop (a + w.length) = r := by rw [← List.drop_drop, h, List.drop_left]
section
variable {m : Mem} {Q : D → Mem → Prop} {s rest : List Nat} {a : Nat}
theorem st_worth_has {w : List Nat} (hl : s.length ≤ 90000) (hs : s.drop a = 93 :: rest) (q : Q (.tup [.tup [.str [91], .str w, .str []], .int ((a + 1 : Nat) : Int)]) m) : W (f_worth_test_at [.str s, .str w, .int a] m) Q := by
  refine w_fn (ρ := [some (.str s), some (.str w), some (.int a), none]) rfl rfl ?_
  unfold b_worth_test_at
  have e : (s.drop a).take 1 = [93] := by rw [hs]; rfl
  (repeat (walk_at "vi.s0"))
  refine q_starts3G (t := [93]) (by simp) ?_
  rw [show decide ((s.drop a).take ([93] : List Nat).length = [93]) = true from decide_eq_true e]
  (repeat (walk_at "vi.s0"))
  exact q
theorem st_worth_eq {w v : List Nat} (hl : s.length ≤ 90000) (hs : s.drop a = 61 :: (v ++ 93 :: rest)) (hv : isVal v) (q : Q (.tup [.tup [.str [61], .str w, .str v], .int ((a + v.length + 2 : Nat) : Int)]) m) : W (f_worth_test_at [.str s, .str w, .int a] m) Q := by
  refine w_fn (ρ := [some (.str s), some (.str w), some (.int a), none]) rfl rfl ?_
  unfold b_worth_test_at k_WORD_SIGNS k_FIGURES k_MOST_VALUE_SIGNS
  have hal : a < s.length := by
    have := congrArg List.length hs
    rw [List.length_drop, List.length_cons] at this
    omega
  have e : ¬ (s.drop a).take 1 = [93] := by rw [hs]; exact fun g => by cases g
  (repeat (walk_at "vi.s0"))
  refine q_starts3G (t := [93]) (by simp) ?_
  rw [show decide ((s.drop a).take ([93] : List Nat).length = [93]) = false from decide_eq_false e]
  (repeat (walk_at "vi.s0"))
  refine w_call ?_
  (repeat (walk_at "vi.s0"))
  refine q_addS (by decide) ?_
  (repeat (walk_at "vi.s0"))
  obtain ⟨v1, v2, v3⟩ := hv
  obtain ⟨_, hs1⟩ := at_head hs
  have hrun : ((s.drop (a + 1)).takeWhile fun c => decide (c ∈ lit6e3145 ++ lit87acec)) = v := by
    rw [hs1]
    refine tw_app (fun c hc => decide_eq_true (v3 c hc)) fun c hc => ?_
    have : c = 93 := by have hc : some 93 = some c := hc; cases hc; rfl
    rw [this]
    exact decide_eq_false (by decide)
  refine st_run_atG (a := a + 1) (by omega) (by omega) ?_
  rw [hrun]
  (repeat (walk_at "vi.s0"))
  rw [decide_eq_false v1]
  (repeat (walk_at "vi.s0"))
  refine q_lenS (by omega) ?_
  (repeat (walk_at "vi.s0"))
  rw [decide_eq_false (p := (v.length : Int) > 12) (by omega)]
  (repeat (walk_at "vi.s0"))
  refine ⟨by decide, ?_⟩
  (repeat (walk_at "vi.s0"))
  refine ⟨by omega, ?_⟩
  (repeat (walk_at "vi.s0"))
  refine ⟨by simp; omega, ?_⟩
  (repeat (walk_at "vi.s0"))
  refine ⟨by simp; omega, ?_⟩
  (repeat (walk_at "vi.s0"))
  have et : ([] ++ [61] ++ v ++ [93] : List Nat) = 61 :: (v ++ [93]) := by simp
  rw [et]
  refine q_starts3G (by simp) ?_
  have e2 : (s.drop a).take (61 :: (v ++ [93])).length = 61 :: (v ++ [93]) := by
    rw [hs, show (61 :: (v ++ 93 :: rest)) = (61 :: (v ++ [93])) ++ rest by simp, List.take_left]
  rw [decide_eq_true e2]
  (repeat (walk_at "vi.s0"))
  refine q_lenS (by omega) ?_
  (repeat (walk_at "vi.s0"))
  exact q
theorem not_first {c : Nat} {r : List Nat} (h : c ≠ 58) : ¬ (c :: r).take sFirst.length = sFirst := fun g => by
  have g : c :: r.take 5 = sFirst := g
  injection g with g1
  exact h g1
theorem st_test_at {tt : List Nat} {v : List (List Nat)} (hl : s.length ≤ 90000) (hs : s.drop a = tt ++ rest) (ht : TestT tt v) (hr : calmH rest) (q : Q (.tup [.tup (v.map D.str), .int ((a + tt.length : Nat) : Int)]) m) : W (f_test_at [.str s, .int a] m) Q := by
  refine w_fn (ρ := [some (.str s), some (.int a), none, none]) rfl rfl ?_
  unfold b_test_at k_FIRST
  have hal : a < s.length := by
    have h1 := congrArg List.length hs
    rw [List.length_drop, List.length_append] at h1
    have : 1 ≤ tt.length := by cases ht <;> simp [sFirst]
    omega
  (repeat (walk_at "vi.s0"))
  refine q_starts3G (by simp) ?_
  cases ht with
  | first =>
    have e : (s.drop a).take sFirst.length = sFirst := by rw [hs, List.take_left]
    rw [show decide ((s.drop a).take ([58, 102, 105, 114, 115, 116] : List Nat).length = [58, 102, 105, 114, 115, 116]) = true from decide_eq_true e]
    (repeat (walk_at "vi.s0"))
    refine q_lenS (by decide) ?_
    (repeat (walk_at "vi.s0"))
    exact q
  | idT w h =>
    obtain ⟨g1, g2⟩ := at_head (r := w ++ rest) hs
    have e : ¬ (s.drop a).take sFirst.length = sFirst := by rw [hs]; exact not_first (by decide)
    rw [show decide ((s.drop a).take ([58, 102, 105, 114, 115, 116] : List Nat).length = [58, 102, 105, 114, 115, 116]) = false from decide_eq_false e]
    obtain ⟨w1, w2, _⟩ := isWord_iff h
    (repeat (walk_at "vi.s0"))
    refine w_call ?_
    (repeat (walk_at "vi.s0"))
    refine st_word_at (a := a + 1) (by omega) (by omega) ?_
    rw [wordAt_app g2 h hr]
    (repeat (walk_at "vi.s0"))
    refine q_lenS (by omega) ?_
    (repeat (walk_at "vi.s0"))
    rw [decide_eq_false (p := w = []) (fun g => by rw [g] at w1; simp at w1)]
    (repeat (walk_at "vi.s0"))
    refine q_ixS (by omega) (k := 35) (atI_ok a rfl g1) ?_
    (repeat (walk_at "vi.s0"))
    rw [show decide (([35] : List Nat) = [35]) = true from decide_eq_true rfl]
    (repeat (walk_at "vi.s0"))
    rw [show (35 :: w).length = 1 + w.length by rw [List.length_cons]; omega, ← Nat.add_assoc] at q
    exact q
  | clsT w h =>
    obtain ⟨g1, g2⟩ := at_head (r := w ++ rest) hs
    have e : ¬ (s.drop a).take sFirst.length = sFirst := by rw [hs]; exact not_first (by decide)
    rw [show decide ((s.drop a).take ([58, 102, 105, 114, 115, 116] : List Nat).length = [58, 102, 105, 114, 115, 116]) = false from decide_eq_false e]
    obtain ⟨w1, w2, _⟩ := isWord_iff h
    (repeat (walk_at "vi.s0"))
    refine w_call ?_
    (repeat (walk_at "vi.s0"))
    refine st_word_at (a := a + 1) (by omega) (by omega) ?_
    rw [wordAt_app g2 h hr]
    (repeat (walk_at "vi.s0"))
    refine q_lenS (by omega) ?_
    (repeat (walk_at "vi.s0"))
    rw [decide_eq_false (p := w = []) (fun g => by rw [g] at w1; simp at w1)]
    (repeat (walk_at "vi.s0"))
    refine q_ixS (by omega) (k := 46) (atI_ok a rfl g1) ?_
    (repeat (walk_at "vi.s0"))
    rw [show decide (([46] : List Nat) = [35]) = false from decide_eq_false (by decide)]
    (repeat (walk_at "vi.s0"))
    refine q_ixS (by omega) (k := 46) (atI_ok a rfl g1) ?_
    (repeat (walk_at "vi.s0"))
    rw [show decide (([46] : List Nat) = [46]) = true from decide_eq_true rfl]
    (repeat (walk_at "vi.s0"))
    rw [show (46 :: w).length = 1 + w.length by rw [List.length_cons]; omega, ← Nat.add_assoc] at q
    exact q
  | hasT w h =>
    obtain ⟨g1, g2⟩ := at_head (r := (w ++ [93]) ++ rest) hs
    have e : ¬ (s.drop a).take sFirst.length = sFirst := by rw [hs]; exact not_first (by decide)
    rw [show decide ((s.drop a).take ([58, 102, 105, 114, 115, 116] : List Nat).length = [58, 102, 105, 114, 115, 116]) = false from decide_eq_false e]
    obtain ⟨w1, w2, _⟩ := isWord_iff h
    rw [List.append_assoc] at g2
    (repeat (walk_at "vi.s0"))
    refine w_call ?_
    (repeat (walk_at "vi.s0"))
    refine st_word_at (a := a + 1) (by omega) (by omega) ?_
    rw [wordAt_app g2 h (fun c hc => by have hc : some 93 = some c := hc; cases hc; decide)]
    (repeat (walk_at "vi.s0"))
    refine q_lenS (by omega) ?_
    (repeat (walk_at "vi.s0"))
    rw [decide_eq_false (p := w = []) (fun g => by rw [g] at w1; simp at w1)]
    (repeat (walk_at "vi.s0"))
    refine q_ixS (by omega) (k := 91) (atI_ok a rfl g1) ?_
    (repeat (walk_at "vi.s0"))
    rw [show decide (([91] : List Nat) = [35]) = false from decide_eq_false (by decide)]
    (repeat (walk_at "vi.s0"))
    refine q_ixS (by omega) (k := 91) (atI_ok a rfl g1) ?_
    (repeat (walk_at "vi.s0"))
    rw [show decide (([91] : List Nat) = [46]) = false from decide_eq_false (by decide)]
    (repeat (walk_at "vi.s0"))
    refine q_ixS (by omega) (k := 91) (atI_ok a rfl g1) ?_
    (repeat (walk_at "vi.s0"))
    rw [show decide (([91] : List Nat) = [91]) = true from decide_eq_true rfl]
    (repeat (walk_at "vi.s0"))
    refine w_call ?_
    (repeat (walk_at "vi.s0"))
    refine st_worth_has (a := a + 1 + w.length) (rest := rest) hl (drop_more g2) ?_
    rw [show (91 :: (w ++ [93])).length = 1 + w.length + 1 by rw [List.length_cons, List.length_append, List.length_singleton]; omega, ← Nat.add_assoc, ← Nat.add_assoc] at q
    exact q
  | eqT w v h hv =>
    obtain ⟨g1, g2⟩ := at_head (r := (w ++ (61 :: (v ++ [93]))) ++ rest) hs
    have e : ¬ (s.drop a).take sFirst.length = sFirst := by rw [hs]; exact not_first (by decide)
    rw [show decide ((s.drop a).take ([58, 102, 105, 114, 115, 116] : List Nat).length = [58, 102, 105, 114, 115, 116]) = false from decide_eq_false e]
    obtain ⟨w1, w2, _⟩ := isWord_iff h
    rw [List.append_assoc] at g2
    have g3 := drop_more g2
    rw [show (61 :: (v ++ [93])) ++ rest = 61 :: (v ++ 93 :: rest) by simp] at g3
    (repeat (walk_at "vi.s0"))
    refine w_call ?_
    (repeat (walk_at "vi.s0"))
    refine st_word_at (a := a + 1) (by omega) (by omega) ?_
    rw [wordAt_app g2 h (fun c hc => by have hc : some 61 = some c := hc; cases hc; decide)]
    (repeat (walk_at "vi.s0"))
    refine q_lenS (by omega) ?_
    (repeat (walk_at "vi.s0"))
    rw [decide_eq_false (p := w = []) (fun g => by rw [g] at w1; simp at w1)]
    (repeat (walk_at "vi.s0"))
    refine q_ixS (by omega) (k := 91) (atI_ok a rfl g1) ?_
    (repeat (walk_at "vi.s0"))
    rw [show decide (([91] : List Nat) = [35]) = false from decide_eq_false (by decide)]
    (repeat (walk_at "vi.s0"))
    refine q_ixS (by omega) (k := 91) (atI_ok a rfl g1) ?_
    (repeat (walk_at "vi.s0"))
    rw [show decide (([91] : List Nat) = [46]) = false from decide_eq_false (by decide)]
    (repeat (walk_at "vi.s0"))
    refine q_ixS (by omega) (k := 91) (atI_ok a rfl g1) ?_
    (repeat (walk_at "vi.s0"))
    rw [show decide (([91] : List Nat) = [91]) = true from decide_eq_true rfl]
    (repeat (walk_at "vi.s0"))
    refine w_call ?_
    (repeat (walk_at "vi.s0"))
    refine st_worth_eq (a := a + 1 + w.length) (rest := rest) hl g3 hv ?_
    rw [show a + (91 :: (w ++ 61 :: (v ++ [93]))).length = a + 1 + w.length + v.length + 2 by rw [List.length_cons, List.length_append, List.length_cons, List.length_append, List.length_singleton]; omega] at q
    exact q
end
end Law
end
section
set_option maxHeartbeats 1000000
open PySem VI
namespace Law
structure Fr (m m' : Mem) : Prop where
  len : m.length ≤ m'.length
  same : ∀ i, i < m.length → m'[i]? = m[i]?
theorem Fr.refl (m : Mem) : Fr m m := ⟨Nat.le_refl _, fun _ _ => rfl⟩
theorem Fr.trans {a b c : Mem} (h : Fr a b) (g : Fr b c) : Fr a c := ⟨Nat.le_trans h.len g.len, fun i hi => (g.same i (Nat.lt_of_lt_of_le hi h.len)).trans (h.same i hi)⟩
theorem Fr.at {a b : Mem} {i : Nat} {o : O} (h : Fr a b) (e : a[i]? = some o) : b[i]? = some o := (h.same i (List.getElem?_eq_some_iff.mp e).1).trans e
theorem Fr.push (m : Mem) (o : O) : Fr m (m ++ [o]) := ⟨by rw [List.length_append]; omega, fun i hi => List.getElem?_append_left hi⟩
theorem Fr.set {a b : Mem} (h : Fr a b) {c : Nat} (hc : a.length ≤ c) (o : O) : Fr a (b.set c o) := ⟨by rw [List.length_set]; exact h.len, fun i hi => by rw [List.getElem?_set_ne (by omega)]; exact h.same i hi⟩
theorem w_whileG {t : TF} {f1 : BF} {QB : Fl → Mem → Prop} (I : Nat → VI.Env → Mem → Prop)
    (hs : ∀ k ρ m, I k ρ m → W (t ρ m) fun v m1 => ifQ v (W (f1 ρ m1) (turnQ (fun ρ2 m2 => ∃ k', k' < k ∧ I k' ρ2 m2) QB)) (QB (.nx ρ) m1)) : ∀ (n k : Nat) (ρ : VI.Env) (m : Mem), I k ρ m → k < n → W (whileV t f1 n ρ m) QB
  | 0, k, ρ, m, _, hn => absurd hn (Nat.not_lt_zero _)
  | n + 1, k, ρ, m, h0, hn => by
    obtain ⟨v, m1, e1, q1, q2⟩ := hs k ρ m h0
    cases v with
    | false => exact ⟨_, m1, by unfold whileV; rw [e1], q2 rfl⟩
    | true =>
      obtain ⟨x, m2, e2, q⟩ := q1 rfl
      cases x with
      | nx ρ2 =>
        obtain ⟨k', hk, h⟩ := q
        obtain ⟨y, m3, e3, q⟩ := w_whileG I hs n k' ρ2 m2 h (by omega)
        exact ⟨y, m3, by unfold whileV; rw [e1]; dsimp only; rw [e2]; exact e3, q⟩
      | ct ρ2 =>
        obtain ⟨k', hk, h⟩ := q
        obtain ⟨y, m3, e3, q⟩ := w_whileG I hs n k' ρ2 m2 h (by omega)
        exact ⟨y, m3, by unfold whileV; rw [e1]; dsimp only; rw [e2]; exact e3, q⟩
      | bk ρ2 => exact ⟨_, m2, by unfold whileV; rw [e1]; dsimp only; rw [e2], q⟩
      | rt d => exact ⟨_, m2, by unfold whileV; rw [e1]; dsimp only; rw [e2], q⟩
/-! a compound of a selector -/
abbrev Tst : Type := List Nat × List (List Nat)
def tstT (ts : List Tst) : List Nat := (ts.map (·.1)).flatten
def tstD (t : Tst) : D := .tup (t.2.map D.str)
structure Cmp where
  hd : List Nat
  ts : List Tst
def Cmp.text (c : Cmp) : List Nat := c.hd ++ tstT c.ts
def Cmp.name (c : Cmp) : List Nat := if c.hd = [42] then [] else c.hd
structure CmpOk (c : Cmp) : Prop where
  h : c.hd = [] ∨ c.hd = [42] ∨ isWord c.hd = true
  t : ∀ t ∈ c.ts, TestT t.1 t.2
  n : c.text ≠ []
  l : c.text.length ≤ 20000
theorem test_head {tt : List Nat} {v : List (List Nat)} (h : TestT tt v) : ∃ c r, tt = c :: r ∧ isL c = false ∧ c ≠ 42 := by
  cases h with
  | first => exact ⟨58, _, rfl, by decide, by decide⟩
  | idT w h => exact ⟨35, _, rfl, by decide, by decide⟩
  | clsT w h => exact ⟨46, _, rfl, by decide, by decide⟩
  | hasT w h => exact ⟨91, _, rfl, by decide, by decide⟩
  | eqT w v h hv => exact ⟨91, _, rfl, by decide, by decide⟩
theorem calm_tests : ∀ {ts : List Tst}, (∀ t ∈ ts, TestT t.1 t.2) → calmH (tstT ts)
  | [], _ => fun c h => by cases h
  | t :: r, h => by
    obtain ⟨c, r', e, hc, _⟩ := test_head (h t List.mem_cons_self)
    intro x hx
    unfold tstT at hx
    rw [List.map_cons, List.flatten_cons, e] at hx
    have hx : some c = some x := hx
    cases hx
    exact hc
theorem tst_len : ∀ {ts : List Tst}, (∀ t ∈ ts, TestT t.1 t.2) → ts.length ≤ (tstT ts).length
  | [], _ => Nat.le_refl _
  | t :: r, h => by
    obtain ⟨c, r', e, _, _⟩ := test_head (h t List.mem_cons_self)
    have ih := tst_len (ts := r) fun x hx => h x (List.mem_cons_of_mem _ hx)
    unfold tstT at ih ⊢
    rw [List.map_cons, List.flatten_cons, List.length_append, e, List.length_cons, List.length_cons]
    omega
theorem tst_take {ts : List Tst} {i : Nat} {t : Tst} (h : ts[i]? = some t) : tstT (ts.drop i) = t.1 ++ tstT (ts.drop (i + 1)) := by
  have hl := (List.getElem?_eq_some_iff.mp h)
  obtain ⟨h1, h2⟩ := hl
  unfold tstT
  rw [List.drop_eq_getElem_cons h1, h2, List.map_cons, List.flatten_cons]
theorem CmpOk.word {c : Cmp} (C : CmpOk c) : wordAt c.text 0 = c.name ∧ (decide (c.text.head? = some 42) = decide (c.hd = [42])) := by
  have hc := calm_tests C.t
  unfold Cmp.name Cmp.text
  rcases C.h with h | h | h
  · rw [h, if_neg (by decide), List.nil_append]
    constructor
    · unfold wordAt
      rw [List.drop_zero, show (tstT c.ts).takeWhile isL = [] from tw_app (w := []) (fun c h => (nomatch h)) hc, if_neg (by simp)]
    · cases hts : c.ts with
      | nil => rfl
      | cons t r =>
        obtain ⟨x, y, e, hx, hx2⟩ := test_head (C.t t (by rw [hts]; exact List.mem_cons_self))
        rw [decide_eq_false (p := ([] : List Nat) = [42]) (by decide)]
        refine decide_eq_false fun g => ?_
        unfold tstT at g
        rw [List.map_cons, List.flatten_cons, e] at g
        have g : some x = some 42 := g
        cases g
        exact hx2 rfl
  · rw [h, if_pos rfl]
    exact ⟨rfl, rfl⟩
  · have hne : c.hd ≠ [42] := fun g => by rw [g] at h; exact absurd h (by decide)
    rw [if_neg hne]
    refine ⟨wordAt_app (by rw [List.drop_zero]) h hc, ?_⟩
    obtain ⟨w1, _, _, w4⟩ := isWord_iff h
    rw [decide_eq_false hne]
    refine decide_eq_false fun g => ?_
    cases hh : c.hd with
    | nil => rw [hh] at w1; simp at w1
    | cons x r =>
      rw [hh] at g w4
      have g : some x = some 42 := g
      cases g
      exact absurd (w4 42 List.mem_cons_self) (by decide)
section
variable {m : Mem} {Q : D → Mem → Prop}
theorem st_compound_of {c : Cmp} (C : CmpOk c) (q : ∀ m', Fr m m' → Q (.tup [.str c.name, .lst (c.ts.map tstD)]) m') : W (f_compound_of [.str c.text] m) Q := by
  refine w_fn (ρ := [some (.str c.text), none, none, none, none, none]) rfl rfl ?_
  unfold b_compound_of
  have hl := C.l
  obtain ⟨h1, h2⟩ := C.word
  have hname : c.name.length ≤ c.text.length := by
    unfold Cmp.name Cmp.text
    split
    · exact Nat.zero_le _
    · rw [List.length_append]; omega
  (repeat (walk_at "vi.s0"))
  refine w_call ?_
  (repeat (walk_at "vi.s0"))
  refine st_word_at (a := 0) (by omega) (by omega) ?_
  rw [h1]
  (repeat (walk_at "vi.s0"))
  have F0 := Fr.push m (O.lst [])
  have hc0 : (m ++ [O.lst []])[m.length]? = some (.lst (([] : List Tst).map tstD)) := by rw [List.getElem?_append_right (Nat.le_refl _), Nat.sub_self]; rfl
  generalize hcc : m.length = k at *
  generalize m ++ [O.lst []] = m0 at *
  have hk : m.length ≤ k := by omega
  have rest : W (whileV (tV (eOp oLt (eVar 3) (eBlt bLen (aCons (eVar 0) (aNil))))) (bSeq (bSet (gName 4) (eCall f_test_at (aCons (eVar 0) (aCons (eVar 3) (aNil))))) (bSeq (bIf (tV (eOp oIs (eVar 4) (eC .non))) (bRet (eC .non)) (bNil)) (bSeq (bSet (gTup 2 (gCons (gName 5) (gCons (gName 3) (gNil)))) (eVar 4)) (bDrop (eApp (eVar 2) (eVar 5)))))) fuel [some (.str c.text), some (.str c.name), some (.cell k), some (.int (c.hd.length : Int)), none, none] m0) (seqQ (bRet (eIf (tV (eOp oEq (eVar 0) (eC (.str [])))) (eC .non) (eTup (aCons (eVar 1) (aCons (eFrz (eVar 2)) (aNil)))))) (retQ Q)) := by
    have hts := tst_len C.t
    have htl : c.text.length = c.hd.length + (tstT c.ts).length := by unfold Cmp.text; rw [List.length_append]
    refine w_whileG (fun K ρ m' => ∃ (i p : Nat) (x4 x5 : Option D), ρ = [some (.str c.text), some (.str c.name), some (.cell k), some (.int (p : Int)), x4, x5] ∧ i ≤ c.ts.length ∧ c.text.drop p = tstT (c.ts.drop i) ∧ p ≤ c.text.length ∧ m'[k]? = some (.lst ((c.ts.take i).map tstD)) ∧ Fr m m' ∧ c.ts.length - i = K) ?_ fuel (c.ts.length) _ _
      ⟨0, c.hd.length, none, none, rfl, Nat.zero_le _, by unfold Cmp.text; rw [List.drop_left, List.drop_zero], by omega, by rw [List.take_zero]; exact hc0, F0, by omega⟩ (by unfold fuel; omega)
    rintro K ρ m1 ⟨i, p, x4, x5, rfl, hi, hd, hp, hm, F, hK⟩
    (repeat (walk_at "vi.s0"))
    refine q_lenS (by omega) ?_
    (repeat (walk_at "vi.s0"))
    refine ifq_d (fun hlt => ?_) (fun hge => ?_)
    · have hil : i < c.ts.length := by
        rcases Nat.lt_or_ge i c.ts.length with g | g
        · exact g
        · rw [List.drop_of_length_le g] at hd
          have := congrArg List.length hd
          rw [List.length_drop] at this
          have : c.text.length - p = 0 := this
          omega
      have ht : c.ts[i]? = some c.ts[i] := List.getElem?_eq_getElem hil
      have hT := C.t c.ts[i] (List.getElem_mem hil)
      generalize c.ts[i] = t at ht hT
      rw [tst_take ht] at hd
      have hp2 : p + t.1.length ≤ c.text.length := by
        have := congrArg List.length hd
        rw [List.length_drop, List.length_append] at this
        omega
      (repeat (walk_at "vi.s0"))
      refine w_call ?_
      (repeat (walk_at "vi.s0"))
      refine st_test_at (by omega) hd hT (calm_tests fun x hx => C.t x (List.mem_of_mem_drop hx)) ?_
      (repeat (walk_at "vi.s0"))
      refine ⟨.bl false, rfl, ?_⟩
      (repeat (walk_at "vi.s0"))
      refine ⟨_, _, rfl, hm, ?_⟩
      (repeat (walk_at "vi.s0"))
      refine ⟨_, hm, by rw [List.length_map, List.length_take]; omega, ?_⟩
      (repeat (walk_at "vi.s0"))
      have hkl := (List.getElem?_eq_some_iff.mp hm).1
      refine ⟨_, by omega, i + 1, p + t.1.length, _, _, rfl, hil, drop_more hd, hp2, ?_, F.set hk _, rfl⟩
      rw [List.getElem?_set_self hkl, List.take_add_one, ht, List.map_append]
      rfl
    · have hil : i = c.ts.length := by
        have h0 : (tstT (c.ts.drop i)).length = 0 := by rw [← hd, List.length_drop]; omega
        have := tst_len (ts := c.ts.drop i) fun x hx => C.t x (List.mem_of_mem_drop hx)
        rw [List.length_drop] at this
        omega
      rw [hil, List.take_length] at hm
      (repeat (walk_at "vi.s0"))
      rw [decide_eq_false C.n]
      (repeat (walk_at "vi.s0"))
      refine w_frz ?_
      refine w_var rfl ?_
      refine ⟨_, _, rfl, hm, ?_⟩
      (repeat (walk_at "vi.s0"))
      exact q _ (F.set hk _)
  (repeat (walk_at "vi.s0"))
  rw [startsD_one, h2]
  by_cases h42 : c.hd = [42]
  · rw [decide_eq_true h42]
    (repeat (walk_at "vi.s0"))
    rw [h42] at rest
    exact rest
  · rw [decide_eq_false h42]
    (repeat (walk_at "vi.s0"))
    refine q_lenS (by omega) ?_
    (repeat (walk_at "vi.s0"))
    have e : c.name = c.hd := by unfold Cmp.name; rw [if_neg h42]
    rw [e] at rest ⊢
    exact rest
end
end Law
end
section
set_option maxHeartbeats 1000000
open PySem VI
namespace Law
/-! the weight of compounds -/
def sgn (t : Tst) : List Nat := t.2.headD []
theorem test_3 {tt : List Nat} {v : List (List Nat)} (h : TestT tt v) : ∃ x y z, v = [x, y, z] := by
  cases h <;> exact ⟨_, _, _, rfl⟩
def cmpD (x : Bool × Cmp) : D := .tup [.bl x.1, .str x.2.name, .lst (x.2.ts.map tstD)]
def signsOf (cs : List (Bool × Cmp)) : List (List Nat) := (cs.map fun x => x.2.ts.map sgn).flatten
def namesOf (cs : List (Bool × Cmp)) : List (List Nat) := (cs.map fun x => x.2.name).filter fun n => !decide (n = [])
def weiD (cs : List (Bool × Cmp)) : D := .tup [.int ((signsOf cs).count [35] : Nat), .int (((signsOf cs).length : Int) - ((signsOf cs).count [35] : Nat)), .int ((namesOf cs).length : Nat)]
theorem signs_take {cs : List (Bool × Cmp)} {i : Nat} {x : Bool × Cmp} (h : cs[i]? = some x) : signsOf (cs.take (i + 1)) = signsOf (cs.take i) ++ x.2.ts.map sgn := by
  unfold signsOf
  rw [List.take_add_one, h, List.map_append, List.flatten_append]
  simp
theorem names_take {cs : List (Bool × Cmp)} {i : Nat} {x : Bool × Cmp} (h : cs[i]? = some x) : namesOf (cs.take (i + 1)) = namesOf (cs.take i) ++ (if x.2.name = [] then [] else [x.2.name]) := by
  unfold namesOf
  rw [List.take_add_one, h, List.map_append, List.filter_append]
  congr 1
  show List.filter _ [x.2.name] = _
  rw [List.filter_cons, List.filter_nil]
  by_cases e : x.2.name = []
  · rw [decide_eq_true e, if_pos e]; rfl
  · rw [decide_eq_false e, if_neg e]; rfl
section
variable {m : Mem} {Q : D → Mem → Prop}
end
end Law
end
section
set_option maxHeartbeats 1000000
open PySem VI
namespace Law
/-! lines joined, and parted again -/
theorem tw_some {c : Nat} {r : List Nat} : ∀ {p : List Nat}, c ∉ p → (p ++ c :: r).takeWhile (· ≠ c) = p
  | [], _ => by simp
  | x :: q, h => by
    rw [List.cons_append, List.takeWhile_cons, if_pos (by rw [decide_eq_true_iff]; exact fun e => h (e ▸ List.mem_cons_self)), tw_some fun g => h (List.mem_cons_of_mem _ g)]
theorem app_inj {c : Nat} {a b : List Nat} {r s : List Nat} : c ∉ a → c ∉ b → a ++ c :: r = b ++ c :: s → a = b ∧ r = s := by
  intro ha hb h
  have e1 := tw_some (r := r) ha
  have e2 := tw_some (r := s) hb
  have : a = b := by rw [← e1, ← e2, h]
  subst this
  exact ⟨rfl, (List.cons.inj (List.append_cancel_left h)).2⟩
theorem join_inj {c : Nat} : ∀ {a b : List (List Nat)}, a ≠ [] → b ≠ [] → (∀ p ∈ a, c ∉ p) → (∀ p ∈ b, c ∉ p) → joinC c a = joinC c b → a = b
  | [], _, h, _, _, _, _ => absurd rfl h
  | _, [], _, h, _, _, _ => absurd rfl h
  | [x], [y], _, _, _, _, h => by rw [show x = y from h]
  | [x], y :: z :: s, _, _, ha, _, h => by
    have : c ∈ x := by rw [show x = y ++ c :: joinC c (z :: s) from h]; simp
    exact absurd this (ha x List.mem_cons_self)
  | x :: z :: s, [y], _, _, _, hb, h => by
    have : c ∈ y := by rw [← show x ++ c :: joinC c (z :: s) = y from h]; simp
    exact absurd this (hb y List.mem_cons_self)
  | x :: z :: s, y :: w :: t, _, _, ha, hb, h => by
    obtain ⟨e1, e2⟩ := app_inj (ha x List.mem_cons_self) (hb y List.mem_cons_self) h
    rw [e1, join_inj (by simp) (by simp) (fun p hp => ha p (List.mem_cons_of_mem _ hp)) (fun p hp => hb p (List.mem_cons_of_mem _ hp)) e2]
theorem splitL_ne {c : Nat} (h0 : splitL [] [c] ≠ []) (t : List Nat) : splitL t [c] ≠ [] := by
  intro e
  have h := splitL_join t c
  rw [e] at h
  have ht : t = [] := h.symm
  subst ht
  exact absurd e h0
theorem split_join {c : Nat} (h0 : splitL [] [c] ≠ []) {ls : List (List Nat)} (h : ls ≠ []) (hf : ∀ p ∈ ls, c ∉ p) : splitL (joinC c ls) [c] = ls :=
  join_inj (splitL_ne h0 _) h (splitL_free _ _) hf (splitL_join _ _)
theorem split_32 : splitL [] [32] ≠ [] := by decide +kernel
/-! what is known of compounds' texts -/
def pairD (c : Cmp) : D := .tup [.str c.name, .lst (c.ts.map tstD)]
theorem pair_unique {c c' : Cmp} (C : CmpOk c) (C' : CmpOk c') (h : c.text = c'.text) : pairD c = pairD c' := by
  obtain ⟨d, m1, e1, q1⟩ := st_compound_of (m := []) (Q := fun d _ => d = pairD c) C (fun _ _ => rfl)
  obtain ⟨d', m2, e2, q2⟩ := st_compound_of (m := []) (Q := fun d _ => d = pairD c') C' (fun _ _ => rfl)
  rw [h, e2] at e1
  cases e1
  exact q1.symm.trans q2
theorem put_new {kvs : List (L2.Key × D)} {k : L2.Key} {v : D} (h : valD kvs k = none) : putKD kvs k v = kvs ++ [(k, v)] := by
  unfold putKD
  rw [if_neg]
  intro g
  unfold valD at h
  rw [Option.map_eq_none_iff, List.find?_eq_none] at h
  obtain ⟨p, hp, e⟩ := List.any_eq_true.mp g
  exact h p hp e
theorem val_snoc {kvs : List (L2.Key × D)} {k k' : L2.Key} {v d : D} (h : valD (kvs ++ [(k, v)]) k' = some d) : valD kvs k' = some d ∨ (k = k' ∧ d = v) := by
  unfold valD at h ⊢
  rw [List.find?_append] at h
  cases e : kvs.find? (fun kv => decide (kv.1 = k')) with
  | some p => rw [e] at h; exact .inl h
  | none =>
    rw [e] at h
    right
    rw [Option.none_or, List.find?_cons] at h
    by_cases g : k = k'
    · rw [decide_eq_true g] at h
      cases h
      exact ⟨g, rfl⟩
    · rw [decide_eq_false g] at h
      cases h
theorem val_new {kvs : List (L2.Key × D)} {k : L2.Key} {v : D} (h : valD kvs k = none) : valD (kvs ++ [(k, v)]) k = some v := by
  unfold valD at h ⊢
  rw [Option.map_eq_none_iff] at h
  rw [List.find?_append, h, Option.none_or, List.find?_cons, decide_eq_true rfl]
  rfl
def KnOk (kvs : List (L2.Key × D)) : Prop := ∀ t d, valD kvs (.inr (S t)) = some d → ∃ c, CmpOk c ∧ c.text = t ∧ d = pairD c
theorem KnOk.nil : KnOk [] := fun t d h => by cases h
theorem KnOk.put {kvs : List (L2.Key × D)} {c : Cmp} (h : KnOk kvs) (C : CmpOk c) : KnOk (kvs ++ [(.inr (S c.text), pairD c)]) := fun t d e => by
  rcases val_snoc e with g | ⟨g1, g2⟩
  · exact h t d g
  · exact ⟨c, C, S_inj (Sum.inr.inj g1), g2⟩
/-- from m to m': the cell at k is changed, nothing else -/
structure FrK (k : Nat) (m m' : Mem) : Prop where
  len : m.length ≤ m'.length
  same : ∀ i, i < m.length → i ≠ k → m'[i]? = m[i]?
theorem FrK.trans {k : Nat} {a b c : Mem} (h : FrK k a b) (g : FrK k b c) : FrK k a c := ⟨Nat.le_trans h.len g.len, fun i hi hk => (g.same i (Nat.lt_of_lt_of_le hi h.len) hk).trans (h.same i hi hk)⟩
theorem Fr.toK {k : Nat} {a b : Mem} (h : Fr a b) : FrK k a b := ⟨h.len, fun i hi _ => h.same i hi⟩
theorem FrK.setK {k : Nat} {a b : Mem} (h : FrK k a b) (o : O) : FrK k a (b.set k o) := ⟨by rw [List.length_set]; exact h.len, fun i hi hk => by rw [List.getElem?_set_ne (Ne.symm hk)]; exact h.same i hi hk⟩
theorem FrK.set {k f : Nat} {a b : Mem} (h : FrK k a b) (hf : a.length ≤ f) (o : O) : FrK k a (b.set f o) := ⟨by rw [List.length_set]; exact h.len, fun i hi hk => by rw [List.getElem?_set_ne (by omega)]; exact h.same i hi hk⟩
theorem FrK.at {k i : Nat} {a b : Mem} {o : O} (h : FrK k a b) (hk : i ≠ k) (e : a[i]? = some o) : b[i]? = some o := (h.same i (List.getElem?_eq_some_iff.mp e).1 hk).trans e
end Law
end
section
set_option maxHeartbeats 1000000
open PySem VI
namespace Law
theorem mem_join {c x : Nat} : ∀ {ws : List (List Nat)}, x ∈ joinC c ws → x = c ∨ ∃ p ∈ ws, x ∈ p
  | [], h => by cases h
  | [p], h => .inr ⟨p, List.mem_cons_self, h⟩
  | p :: y :: r, h => by
    rcases List.mem_append.mp (show x ∈ p ++ c :: joinC c (y :: r) from h) with h | h
    · exact .inr ⟨p, List.mem_cons_self, h⟩
    · rcases List.mem_cons.mp h with h | h
      · exact .inl h
      · rcases mem_join h with h | ⟨q, hq, h⟩
        · exact .inl h
        · exact .inr ⟨q, List.mem_cons_of_mem _ hq, h⟩
/-! compounds in groups -/
theorem letters_clean : ∀ x ∈ lit6e3145, x ≠ 32 ∧ x ≠ 62 := by decide
theorem val_clean : ∀ x ∈ valS, x ≠ 32 ∧ x ≠ 62 := by decide
theorem word_clean {w : List Nat} (h : isWord w = true) : ∀ x ∈ w, x ≠ 32 ∧ x ≠ 62 := fun x hx => letters_clean x (of_decide_eq_true ((isWord_iff h).2.2.2 x hx))
theorem test_clean {tt : List Nat} {v : List (List Nat)} (h : TestT tt v) : ∀ x ∈ tt, x ≠ 32 ∧ x ≠ 62 := by
  cases h with
  | first => decide
  | idT w h => intro x hx; rcases List.mem_cons.mp hx with rfl | hx; exact ⟨by decide, by decide⟩; exact word_clean h x hx
  | clsT w h => intro x hx; rcases List.mem_cons.mp hx with rfl | hx; exact ⟨by decide, by decide⟩; exact word_clean h x hx
  | hasT w h =>
    intro x hx
    rcases List.mem_cons.mp hx with rfl | hx
    · exact ⟨by decide, by decide⟩
    · rcases List.mem_append.mp hx with hx | hx
      · exact word_clean h x hx
      · rw [List.mem_singleton.mp hx]; exact ⟨by decide, by decide⟩
  | eqT w v h hv =>
    intro x hx
    rcases List.mem_cons.mp hx with rfl | hx
    · exact ⟨by decide, by decide⟩
    · rcases List.mem_append.mp hx with hx | hx
      · exact word_clean h x hx
      · rcases List.mem_cons.mp hx with rfl | hx
        · exact ⟨by decide, by decide⟩
        · rcases List.mem_append.mp hx with hx | hx
          · exact val_clean x (hv.2.2 x hx)
          · rw [List.mem_singleton.mp hx]; exact ⟨by decide, by decide⟩
theorem CmpOk.clean {c : Cmp} (C : CmpOk c) : ∀ x ∈ c.text, x ≠ 32 ∧ x ≠ 62 := by
  intro x hx
  rcases List.mem_append.mp hx with hx | hx
  · rcases C.h with h | h | h
    · rw [h] at hx; cases hx
    · rw [h] at hx; rw [List.mem_singleton.mp hx]; exact ⟨by decide, by decide⟩
    · exact word_clean h x hx
  · unfold tstT at hx
    obtain ⟨p, hp, hx⟩ := List.mem_flatten.mp hx
    obtain ⟨t, ht, rfl⟩ := List.mem_map.mp hp
    exact test_clean (C.t t ht) x hx
def grpT (g : List Cmp) : List Nat := joinC 32 (g.map Cmp.text)
def selT (gs : List (List Cmp)) : List Nat := joinG (gs.map grpT)
def markG (g : List Cmp) : List (Bool × Cmp) := g.mapIdx fun i c => (decide (i = 0), c)
def flatG (gs : List (List Cmp)) : List (Bool × Cmp) := (gs.map markG).flatten
structure SelOk (gs : List (List Cmp)) : Prop where
  ne : gs ≠ []
  g : ∀ g ∈ gs, g ≠ []
  c : ∀ g ∈ gs, ∀ c ∈ g, CmpOk c
  n : (flatG gs).length ≤ 4
  l : (selT gs).length ≤ 90000
  gl : ∀ g ∈ gs, (grpT g).length ≤ 90000
theorem mark_len (g : List Cmp) : (markG g).length = g.length := by unfold markG; rw [List.length_mapIdx]
theorem mark_take {g : List Cmp} {j : Nat} {c : Cmp} (h : g[j]? = some c) : markG (g.take (j + 1)) = markG (g.take j) ++ [(decide (j = 0), c)] := by
  have hl := (List.getElem?_eq_some_iff.mp h).1
  unfold markG
  rw [List.take_add_one, h]
  show List.mapIdx _ (g.take j ++ [c]) = _
  rw [List.mapIdx_concat, List.length_take, Nat.min_eq_left (by omega)]
theorem flat_take {gs : List (List Cmp)} {i : Nat} {g : List Cmp} (h : gs[i]? = some g) : flatG (gs.take (i + 1)) = flatG (gs.take i) ++ markG g := by
  unfold flatG
  rw [List.take_add_one, h, List.map_append, List.flatten_append]
  simp
theorem flat_le {gs : List (List Cmp)} {i : Nat} {g : List Cmp} (h : gs[i]? = some g) : (flatG (gs.take i)).length + g.length ≤ (flatG gs).length := by
  rw [← mark_len g, ← List.length_append, ← flat_take h]
  unfold flatG
  conv => rhs; rw [← List.take_append_drop (i + 1) gs, List.map_append, List.flatten_append, List.length_append]
  omega
theorem SelOk.split {gs : List (List Cmp)} (H : SelOk gs) : splitL (selT gs) [32, 62, 32] = gs.map grpT := by
  refine split_G (by simp [H.ne]) fun p hp hm => ?_
  obtain ⟨g, hg, rfl⟩ := List.mem_map.mp hp
  rcases mem_join hm with e | ⟨q, hq, hx⟩
  · cases e
  · obtain ⟨c, hc, rfl⟩ := List.mem_map.mp hq
    exact ((H.c g hg c hc).clean 62 hx).2 rfl
theorem SelOk.split2 {gs : List (List Cmp)} (H : SelOk gs) {g : List Cmp} (hg : g ∈ gs) : splitL (grpT g) [32] = g.map Cmp.text := by
  refine split_join split_32 (by simp [H.g g hg]) fun p hp hm => ?_
  obtain ⟨c, hc, rfl⟩ := List.mem_map.mp hp
  exact ((H.c g hg c hc).clean 32 hm).1 rfl
end Law
end
section
set_option maxHeartbeats 1000000
open PySem VI
namespace Law
section
variable {m : Mem} {Q : D → Mem → Prop}
theorem st_compounds_of {gs : List (List Cmp)} (H : SelOk gs) {kd : Nat} (hk : m[kd]? = some (.dct [])) (q : ∀ m', FrK kd m m' → Q (.lst ((flatG gs).map cmpD)) m') : W (f_compounds_of [.str (selT gs), .cell kd] m) Q := by
  refine w_fn (ρ := [some (.str (selT gs)), some (.cell kd), none, none, none, none]) rfl rfl ?_
  unfold b_compounds_of k_MOST_COMPOUNDS
  have hlen := H.l
  have hkl := (List.getElem?_eq_some_iff.mp hk).1
  (repeat (walk_at "vi.s0"))
  have F0 : FrK kd m (m ++ [O.lst []]) := (Fr.push m (O.lst [])).toK
  have hk0 : (m ++ [O.lst []])[kd]? = some (.dct []) := (Fr.push m _).at hk
  have hf0 : (m ++ [O.lst []])[m.length]? = some (.lst (([] : List (Bool × Cmp)).map cmpD)) := by rw [List.getElem?_append_right (Nat.le_refl _), Nat.sub_self]; rfl
  have hfk : m.length ≠ kd := by omega
  generalize hf : m.length = f at *
  generalize m ++ [O.lst []] = m0 at *
  refine w_for (fun i ρ m' => ∃ (x3 x4 x5 : Option D) (kvs : List (L2.Key × D)), ρ = [some (.str (selT gs)), some (.cell kd), some (.cell f), x3, x4, x5] ∧ m'[kd]? = some (.dct kvs) ∧ KnOk kvs ∧ kvs.length ≤ (flatG (gs.take i)).length ∧ m'[f]? = some (.lst ((flatG (gs.take i)).map cmpD)) ∧ FrK kd m m') ?_
  (repeat (walk_at "vi.s0"))
  refine q_split ⟨by decide, by omega⟩ ?_
  rw [H.split]
  (repeat (walk_at "vi.s0"))
  refine ⟨⟨none, none, none, [], rfl, hk0, KnOk.nil, Nat.zero_le _, hf0, F0⟩, ?_, ?_⟩
  · rintro i d ρ m1 hd ⟨x3, x4, x5, kvs, rfl, hk1, hK, hkn, hf1, F⟩
    rw [List.getElem?_map, List.getElem?_map] at hd
    obtain ⟨t, ht, rfl⟩ := Option.map_eq_some_iff.mp hd
    obtain ⟨g, hg, rfl⟩ := Option.map_eq_some_iff.mp ht
    have hgm := List.mem_of_getElem? hg
    have hgl := H.gl g hgm
    have hfl := flat_le hg
    have hn := H.n
    (repeat (walk_at "vi.s0"))
    refine w_for (fun j ρ m' => ∃ (x4 x5 : Option D) (kvs : List (L2.Key × D)), ρ = [some (.str (selT gs)), some (.cell kd), some (.cell f), some (.str (grpT g)), x4, x5] ∧ m'[kd]? = some (.dct kvs) ∧ KnOk kvs ∧ kvs.length ≤ (flatG (gs.take i)).length + j ∧ m'[f]? = some (.lst ((flatG (gs.take i) ++ markG (g.take j)).map cmpD)) ∧ FrK kd m m') ?_
    refine w_enum ?_
    (repeat (walk_at "vi.s0"))
    refine q_split ⟨by decide, by omega⟩ ?_
    rw [H.split2 hgm]
    refine ⟨_, rfl, ?_⟩
    refine ⟨⟨x4, x5, kvs, rfl, hk1, hK, by omega, by simpa [markG] using hf1, F⟩, ?_, ?_⟩
    · clear hk1 hK hkn hf1 F kvs
      rintro j d ρ m2 hd2 ⟨x4, x5, kvs, rfl, hk2, hK, hkn, hf2, F⟩
      obtain ⟨y, hy, rfl⟩ := enumD_get hd2
      rw [List.getElem?_map, List.getElem?_map] at hy
      obtain ⟨t, ht2, rfl⟩ := Option.map_eq_some_iff.mp hy
      obtain ⟨c, hc, rfl⟩ := Option.map_eq_some_iff.mp ht2
      have C := H.c g hgm c (List.mem_of_getElem? hc)
      have hjl := (List.getElem?_eq_some_iff.mp hc).1
      rw [Nat.zero_add]
      refine w_gtup rfl ?_
      (repeat (walk_at "vi.s0"))
      refine ⟨_, _, rfl, hk2, ?_⟩
      refine blq ?_
      refine ifq_mid (fun ρ m' => ∃ kvs' : List (L2.Key × D), ρ = [some (.str (selT gs)), some (.cell kd), some (.cell f), some (.str (grpT g)), some (.int (j : Int)), some (.str c.text)] ∧ m'[kd]? = some (.dct kvs') ∧ KnOk kvs' ∧ kvs'.length ≤ (flatG (gs.take i)).length + j + 1 ∧ valD kvs' (.inr (S c.text)) = some (pairD c) ∧ m'[f]? = some (.lst ((flatG (gs.take i) ++ markG (g.take j)).map cmpD)) ∧ FrK kd m m') ?_ ?_
      · refine ⟨fun e => ?_, fun e => ?_⟩
        · have hv : valD kvs (.inr (S c.text)) = none := by
            cases hx : valD kvs (.inr (S c.text)) with
            | none => rfl
            | some d => rw [hx] at e; cases e
          (repeat (walk_at "vi.s0"))
          refine w_call ?_
          (repeat (walk_at "vi.s0"))
          refine st_compound_of C fun m3 F3 => ?_
          (repeat (walk_at "vi.s0"))
          refine ⟨_, _, rfl, F3.at hk2, by omega, ?_⟩
          rw [put_new hv]
          have hkl3 := (List.getElem?_eq_some_iff.mp (F3.at hk2)).1
          refine ⟨_, rfl, List.getElem?_set_self hkl3, hK.put C, by rw [List.length_append, List.length_singleton]; omega, val_new hv, by rw [List.getElem?_set_ne (by omega)]; exact F3.at hf2, (F.trans F3.toK).setK _⟩
        · (repeat (walk_at "vi.s0"))
          cases hx : valD kvs (.inr (S c.text)) with
          | none => rw [hx] at e; cases e
          | some d =>
            obtain ⟨c', C', e1, e2⟩ := hK _ _ hx
            exact ⟨kvs, rfl, hk2, hK, by omega, by rw [hx, e2, pair_unique C' C e1], hf2, F⟩
      clear hk2 hK hkn hf2 F kvs
      rintro ρ m3 ⟨kvs, rfl, hk3, hK, hkn, hv, hf3, F⟩
      (repeat (walk_at "vi.s0"))
      refine ⟨_, _, rfl, hk3, ?_⟩
      (repeat (walk_at "vi.s0"))
      refine ⟨_, _, _, rfl, hk3, hv, ?_⟩
      (repeat (walk_at "vi.s0"))
      refine ⟨.bl false, rfl, ?_⟩
      (repeat (walk_at "vi.s0"))
      refine q_lenC hf3 ?_
      (repeat (walk_at "vi.s0"))
      have hl3 : (flatG (gs.take i) ++ markG (g.take j)).length = (flatG (gs.take i)).length + j := by rw [List.length_append, mark_len, List.length_take, Nat.min_eq_left (by omega)]
      rw [List.length_map, hl3, decide_eq_false (p := (((flatG (gs.take i)).length + j : Nat) : Int) = 4) (by omega)]
      (repeat (walk_at "vi.s0"))
      refine ⟨_, _, rfl, hf3, ?_⟩
      (repeat (walk_at "vi.s0"))
      refine ⟨_, _, rfl, hk3, ?_⟩
      (repeat (walk_at "vi.s0"))
      refine ⟨_, _, _, rfl, hk3, hv, ?_⟩
      refine ⟨[.str c.name, .lst (c.ts.map tstD)], rfl, ?_⟩
      (repeat (walk_at "vi.s0"))
      refine ⟨by simp, ?_⟩
      (repeat (walk_at "vi.s0"))
      refine ⟨_, hf3, by rw [List.length_map, hl3]; omega, ?_⟩
      (repeat (walk_at "vi.s0"))
      have hfl3 := (List.getElem?_eq_some_iff.mp hf3).1
      refine ⟨_, _, kvs, rfl, by rw [List.getElem?_set_ne (by omega)]; exact hk3, hK, by omega, ?_, F.set (by omega) _⟩
      rw [List.getElem?_set_self hfl3, mark_take hc, ← List.append_assoc, List.map_append (l₂ := [(decide (j = 0), c)])]
      have ej : decide ((j : Int) = 0) = decide (j = 0) := decide_eq_decide.mpr (by omega)
      rw [ej]
      rfl
    · rintro ρ m2 ⟨x4, x5, kvs, rfl, hk2, hK, hkn, hf2, F⟩
      rw [enumD_len, List.length_map, List.length_map, List.take_length] at hf2
      rw [enumD_len, List.length_map, List.length_map] at hkn
      (repeat (walk_at "vi.s0"))
      refine ⟨_, _, _, kvs, rfl, hk2, hK, by rw [flat_take hg, List.length_append, mark_len]; exact hkn, by rw [flat_take hg]; exact hf2, F⟩
  · rintro ρ m1 ⟨x3, x4, x5, kvs, rfl, hk1, hK, hkn, hf1, F⟩
    rw [List.length_map, List.length_map, List.take_length] at hf1
    refine w_ret ?_
    refine w_frz ?_
    refine w_var rfl ?_
    exact ⟨_, _, rfl, hf1, q _ (F.set (by omega) _)⟩
end
end Law
end
section
set_option maxHeartbeats 1000000
open PySem VI
namespace Law
/-! declarations -/
def allD : List (List Nat) → Option (List D)
  | [] => some []
  | p :: r => match declW p with
    | none => none
    | some x => match allD r with
      | none => none
      | some ds => some (declD x :: ds)
theorem allD_none {p : List Nat} : ∀ {ps : List (List Nat)}, p ∈ ps → declW p = none → allD ps = none
  | q :: r, h, e => by
    unfold allD
    rcases List.mem_cons.mp h with rfl | h
    · rw [e]
    · rw [allD_none h e]
      cases declW q <;> rfl
theorem allD_snoc {p : List Nat} {x : List Nat × List Nat × Bool} (e : declW p = some x) : ∀ {ps : List (List Nat)} {ds : List D}, allD ps = some ds → allD (ps ++ [p]) = some (ds ++ [declD x])
  | [], ds, h => by
    cases h
    show (match declW p with | none => none | some x => match allD [] with | none => none | some ds => some (declD x :: ds)) = _
    rw [e]
    rfl
  | q :: r, ds, h => by
    show (match declW q with | none => none | some x => match allD (r ++ [p]) with | none => none | some ds => some (declD x :: ds)) = _
    unfold allD at h
    cases hq : declW q with
    | none => rw [hq] at h; cases h
    | some y =>
      rw [hq] at h
      dsimp only at h ⊢
      cases hr : allD r with
      | none => rw [hr] at h; cases h
      | some es =>
        rw [hr] at h
        cases h
        rw [allD_snoc e hr]
        rfl
theorem allD_len : ∀ {ps : List (List Nat)} {ds : List D}, allD ps = some ds → ds.length = ps.length
  | [], ds, h => by cases h; rfl
  | q :: r, ds, h => by
    unfold allD at h
    cases hq : declW q with
    | none => rw [hq] at h; cases h
    | some y =>
      rw [hq] at h
      dsimp only at h
      cases hr : allD r with
      | none => rw [hr] at h; cases h
      | some es =>
        rw [hr] at h
        cases h
        rw [List.length_cons, List.length_cons, allD_len hr]
def declsOf (s : List Nat) : Option (List D) := if 12 < (splitL s [59, 32]).length then none else allD (splitL s [59, 32])
/-- what is known of declarations -/
def KdOk (kvs : List (L2.Key × D)) : Prop := ∀ t d, valD kvs (.inr (VI.S t)) = some d → d = declV t
theorem KdOk.nil : KdOk [] := fun t d h => by cases h
theorem KdOk.put {kvs : List (L2.Key × D)} {s : List Nat} (h : KdOk kvs) : KdOk (kvs ++ [(.inr (VI.S s), declV s)]) := fun t d e => by
  rcases val_snoc e with g | ⟨g, rfl⟩
  · exact h t d g
  · have : s = t := VI.S_inj (Sum.inr.inj g)
    rw [this]
section
variable {m : Mem} {Q : D → Mem → Prop}
theorem st_declarations_of {s : List Nat} {kd : Nat} {kvs : List (L2.Key × D)} (hk : m[kd]? = some (.dct kvs)) (hK : KdOk kvs) (hn : kvs.length ≤ 1000000) (hl : s.length ≤ 100000)
    (q0 : declsOf s = none → ∀ m' kvs', FrK kd m m' → m'[kd]? = some (.dct kvs') → KdOk kvs' → kvs'.length ≤ kvs.length + 12 → Q .non m')
    (q1 : ∀ ds, declsOf s = some ds → ∀ f m' kvs', FrK kd m m' → m'[kd]? = some (.dct kvs') → KdOk kvs' → kvs'.length ≤ kvs.length + 12 → m.length ≤ f → m'[f]? = some (.lst ds) → Q (.cell f) m') : W (f_declarations_of [.str s, .cell kd] m) Q := by
  refine w_fn (ρ := [some (.str s), some (.cell kd), none, none, none, none, none]) rfl rfl ?_
  unfold b_declarations_of k_MOST_DECLARATIONS
  unfold declsOf at q0 q1
  have hkl := (List.getElem?_eq_some_iff.mp hk).1
  have hpl : ∀ p ∈ splitL s [59, 32], p.length ≤ 100000 := fun p hp => Nat.le_trans (splitL_part (by simp) hp) hl
  have hne := VI.splitL_len (s := s) (t := [59, 32]) (by simp)
  (repeat (walk_at "vi.s0"))
  refine q_split ⟨by simp, by omega⟩ ?_
  generalize splitL s [59, 32] = ps at *
  (repeat (walk_at "vi.s0"))
  rw [List.length_map]
  refine ifq_d (fun h12 => ?_) (fun h12 => ?_)
  · (repeat (walk_at "vi.s0"))
    exact q0 (by rw [if_pos (by omega)]) m kvs ⟨Nat.le_refl _, fun _ _ _ => rfl⟩ hk hK (by omega)
  have h12' : ¬ 12 < ps.length := by omega
  rw [if_neg h12'] at q0 q1
  (repeat (walk_at "vi.s0"))
  have F0 : FrK kd m (m ++ [O.lst []]) := (Fr.push m (O.lst [])).toK
  have hk0 : (m ++ [O.lst []])[kd]? = some (.dct kvs) := (Fr.push m _).at hk
  have hf0 : (m ++ [O.lst []])[m.length]? = some (.lst []) := by rw [List.getElem?_append_right (Nat.le_refl _), Nat.sub_self]; rfl
  have hfk : m.length ≠ kd := by omega
  generalize hf : m.length = f at *
  generalize m ++ [O.lst []] = m0 at *
  refine w_for (fun i ρ m' => ∃ (x4 x5 x6 : Option D) (kvs' : List (L2.Key × D)) (ds : List D), ρ = [some (.str s), some (.cell kd), some (.lst (ps.map D.str)), some (.cell f), x4, x5, x6] ∧ m'[kd]? = some (.dct kvs') ∧ KdOk kvs' ∧ kvs'.length ≤ kvs.length + i ∧ allD (ps.take i) = some ds ∧ m'[f]? = some (.lst ds) ∧ FrK kd m m') ?_
  refine w_it ?_
  refine w_var rfl ?_
  refine it_lst' ?_
  refine ⟨⟨none, none, none, kvs, [], rfl, hk0, hK, by omega, rfl, hf0, F0⟩, ?_, ?_⟩
  · rintro i d ρ m1 hd ⟨x4, x5, x6, kvs1, ds, rfl, hk1, hK1, hn1, hds, hf1, F⟩
    rw [List.getElem?_map] at hd
    obtain ⟨p, hp, rfl⟩ := Option.map_eq_some_iff.mp hd
    have hpm := List.mem_of_getElem? hp
    have hil := (List.getElem?_eq_some_iff.mp hp).1
    have hdl : ds.length = i := by rw [allD_len hds, List.length_take]; omega
    (repeat (walk_at "vi.s0"))
    refine ⟨_, _, rfl, hk1, ?_⟩
    refine blq ?_
    refine ifq_mid (fun ρ m' => ∃ kvs' : List (L2.Key × D), ρ = [some (.str s), some (.cell kd), some (.lst (ps.map D.str)), some (.cell f), some (.str p), x5, x6] ∧ m'[kd]? = some (.dct kvs') ∧ KdOk kvs' ∧ kvs'.length ≤ kvs.length + (i + 1) ∧ valD kvs' (.inr (VI.S p)) = some (declV p) ∧ m'[f]? = some (.lst ds) ∧ FrK kd m m') ?_ ?_
    · refine ⟨fun e => ?_, fun e => ?_⟩
      · have hv : valD kvs1 (.inr (VI.S p)) = none := by
          cases hx : valD kvs1 (.inr (VI.S p)) with
          | none => rfl
          | some d => rw [hx] at e; cases e
        (repeat (walk_at "vi.s0"))
        refine w_call ?_
        (repeat (walk_at "vi.s0"))
        refine st_declaration_of (hpl p hpm) ?_
        (repeat (walk_at "vi.s0"))
        refine ⟨_, _, rfl, hk1, by omega, ?_⟩
        rw [put_new hv]
        have hkl1 := (List.getElem?_eq_some_iff.mp hk1).1
        refine ⟨_, rfl, List.getElem?_set_self hkl1, hK1.put, by rw [List.length_append, List.length_singleton]; omega, val_new hv, by rw [List.getElem?_set_ne (Ne.symm hfk)]; exact hf1, F.setK _⟩
      · (repeat (walk_at "vi.s0"))
        cases hx : valD kvs1 (.inr (VI.S p)) with
        | none => rw [hx] at e; cases e
        | some d => exact ⟨kvs1, rfl, hk1, hK1, by omega, by rw [hx, hK1 _ _ hx], hf1, F⟩
    clear hk1 hK1 hn1 hf1 F kvs1
    rintro ρ m2 ⟨kvs2, rfl, hk2, hK2, hn2, hv, hf2, F⟩
    (repeat (walk_at "vi.s0"))
    refine ⟨_, _, rfl, hk2, ?_⟩
    (repeat (walk_at "vi.s0"))
    refine ⟨_, _, _, rfl, hk2, hv, ?_⟩
    unfold declV
    cases hw : declW p with
    | none =>
      (repeat (walk_at "vi.s0"))
      exact q0 (allD_none hpm hw) _ kvs2 F hk2 hK2 (by omega)
    | some x =>
      (repeat (walk_at "vi.s0"))
      refine ⟨_, _, rfl, hf2, ?_⟩
      (repeat (walk_at "vi.s0"))
      refine ⟨_, hf2, by omega, ?_⟩
      (repeat (walk_at "vi.s0"))
      have hfl := (List.getElem?_eq_some_iff.mp hf2).1
      refine ⟨_, _, _, kvs2, ds ++ [declD x], rfl, by rw [List.getElem?_set_ne hfk]; exact hk2, hK2, hn2, ?_, List.getElem?_set_self hfl, F.set (by omega) _⟩
      rw [List.take_add_one, hp]
      exact allD_snoc hw hds
  · rintro ρ m1 ⟨x4, x5, x6, kvs1, ds, rfl, hk1, hK1, hn1, hds, hf1, F⟩
    rw [List.length_map] at hds hn1
    rw [List.take_length] at hds
    (repeat (walk_at "vi.s0"))
    exact q1 ds hds f m1 kvs1 F hk1 hK1 (by omega) (by omega) hf1
theorem st_own_rules {s : List Nat} (hl : s.length ≤ 100000) (q : ∀ f m', Fr m m' → m.length ≤ f → m'[f]? = some (.lst ((declsOf s).getD [])) → Q (.cell f) m') : W (f_own_rules [.str s] m) Q := by
  refine w_fn (ρ := [some (.str s)]) rfl rfl ?_
  unfold b_own_rules
  (repeat (walk_at "vi.s0"))
  refine w_call ?_
  (repeat (walk_at "vi.s0"))
  refine w_dict0 ?_
  (repeat (walk_at "vi.s0"))
  have hk : (m ++ [O.dct []])[m.length]? = some (.dct []) := by rw [List.getElem?_append_right (Nat.le_refl _), Nat.sub_self]; rfl
  have toFr : ∀ {m1 : Mem}, FrK m.length (m ++ [O.dct []]) m1 → Fr m m1 := fun {m1} F => by
    have h0 := F.len
    rw [List.length_append] at h0
    exact ⟨by omega, fun i hi => by rw [F.same i (by rw [List.length_append]; omega) (by omega), List.getElem?_append_left hi]⟩
  refine w_fn (ρ := [some (.str s), some (.cell m.length), none]) rfl rfl ?_
  unfold b_own_declarations
  (repeat (walk_at "vi.s0"))
  refine w_call ?_
  (repeat (walk_at "vi.s0"))
  refine st_declarations_of hk KdOk.nil (by simp) hl (fun h m1 kvs' F _ _ _ => ?_) (fun ds h f m1 kvs' F _ _ _ hf hfm => ?_)
  · rw [h] at q
    (repeat (walk_at "vi.s0"))
    refine ⟨.bl true, rfl, ?_⟩
    (repeat (walk_at "vi.s0"))
    have F1 := toFr F
    exact q _ _ (F1.trans (Fr.push m1 _)) F1.len (by rw [List.getElem?_append_right (Nat.le_refl _), Nat.sub_self]; rfl)
  · rw [h] at q
    (repeat (walk_at "vi.s0"))
    refine ⟨.bl false, rfl, ?_⟩
    (repeat (walk_at "vi.s0"))
    rw [List.length_append] at hf
    exact q f m1 (toFr F) (by omega) hfm
end
end Law
end
section
set_option maxHeartbeats 1000000
open PySem VI
namespace Law
/-! a row of looks with one selector of one compound -/
def rowOf (c : Cmp) (body : List Nat) : List Nat := c.text ++ ([32, 123, 32] ++ (body ++ [32, 125]))
structure PlainC (c : Cmp) : Prop where
  ok : CmpOk c
  n44 : 44 ∉ c.text
  n123 : 123 ∉ c.text
  n10 : 10 ∉ c.text
  len : c.text.length ≤ 1000
theorem one_split {s a : Nat} {b : List Nat} (hk : (a :: b).all (· < 256) = true) {t : List Nat} (h : a ∉ t) : splitL t (a :: b) = [t] := splitL_of (parts := [t]) hk (by simp) fun p hp => by rw [List.mem_singleton.mp hp]; exact h
theorem ends_app (a b : List Nat) : endsL (a ++ b) b = true := by
  unfold endsL
  rw [decide_eq_true_iff]
  refine ⟨by rw [List.length_append]; omega, ?_⟩
  rw [List.length_append, Nat.add_sub_cancel, List.drop_left]
theorem take_suffix (a b : List Nat) : (a ++ b).take ((a ++ b).length - b.length) = a := by
  rw [List.length_append, Nat.add_sub_cancel, List.take_left]
section
variable {m : Mem} {Q : D → Mem → Prop}
theorem st_selectors_one {c : Cmp} (C : PlainC c) {kd : Nat} (hk : m[kd]? = some (.dct [])) (q : ∀ m', FrK kd m m' → Q (.lst [.str c.text]) m') : W (f_selectors_of [.str c.text, .cell kd] m) Q := by
  refine w_fn (ρ := [some (.str c.text), some (.cell kd), none, none]) rfl rfl ?_
  unfold b_selectors_of k_MOST_SELECTORS
  have hlen := C.len
  (repeat (walk_at "vi.s0"))
  refine q_split ⟨by simp, by omega⟩ ?_
  rw [one_split (s := 0) (by decide) C.n44]
  (repeat (walk_at "vi.s0"))
  refine ifq_d (fun h => by simp at h) (fun _ => ?_)
  (repeat (walk_at "vi.s0"))
  have H : SelOk [[c]] := by
    refine ⟨by simp, ?_, ?_, ?_, ?_, ?_⟩
    · intro g hg; rw [List.mem_singleton.mp hg]; simp
    · intro g hg x hx
      rw [List.mem_singleton.mp hg] at hx
      rw [List.mem_singleton.mp hx]
      exact C.ok
    · show 1 ≤ 4; decide
    · show c.text.length ≤ _; omega
    · intro g hg
      rw [List.mem_singleton.mp hg]
      show c.text.length ≤ _; omega
  refine w_for (fun i ρ m' => ∃ x3, ρ = [some (.str c.text), some (.cell kd), some (.lst [.str c.text]), x3] ∧ FrK kd m m' ∧ (i = 0 → m'[kd]? = some (.dct []))) ?_
  refine w_it ?_
  refine w_var rfl ?_
  refine it_lst' ?_
  refine ⟨⟨none, rfl, ⟨Nat.le_refl _, fun _ _ _ => rfl⟩, fun _ => hk⟩, ?_, ?_⟩
  · rintro i d ρ m1 hd ⟨x3, rfl, F, h0⟩
    have hi : i = 0 := by
      have := (List.getElem?_eq_some_iff.mp hd).1
      simp only [List.map_cons, List.map_nil, List.length_cons, List.length_nil] at this
      omega
    subst hi
    cases hd
    (repeat (walk_at "vi.s0"))
    refine w_call ?_
    (repeat (walk_at "vi.s0"))
    refine st_compounds_of H (h0 rfl) fun m2 F2 => ?_
    (repeat (walk_at "vi.s0"))
    refine ⟨.bl false, rfl, ?_⟩
    (repeat (walk_at "vi.s0"))
    exact ⟨F.trans F2, fun h => by cases h⟩
  · rintro ρ m1 ⟨x3, rfl, F, _⟩
    (repeat (walk_at "vi.s0"))
    exact q m1 F
theorem st_rules_one {c : Cmp} {body : List Nat} (C : PlainC c) (hb : body.length ≤ 90000) (h10 : 10 ∉ body)
    (q0 : declsOf body = none → ∀ m', Fr m m' → Q (.lst [.non]) m')
    (q1 : ∀ ds, declsOf body = some ds → ∀ f m', Fr m m' → m.length ≤ f → m'[f]? = some (.lst ds) → Q (.lst [.tup [.lst [.str c.text], .cell f]]) m') : W (f_rules_of [.str (rowOf c body)] m) Q := by
  refine w_fn (ρ := [some (.str (rowOf c body)), none, none, none]) rfl rfl ?_
  unfold b_rules_of
  have hcl := C.len
  have hrl : (rowOf c body).length ≤ 95000 := by
    unfold rowOf
    simp only [List.length_append, List.length_cons, List.length_nil]
    omega
  have hr10 : 10 ∉ rowOf c body := by
    unfold rowOf
    simp only [List.mem_append, List.mem_cons, List.not_mem_nil, or_false]
    rintro (h | h | h | h)
    · exact C.n10 h
    · omega
    · exact h10 h
    · omega
  (repeat (walk_at "vi.s0"))
  refine w_dict0 ?_
  (repeat (walk_at "vi.s0"))
  refine w_dict0 ?_
  (repeat (walk_at "vi.s0"))
  have hk1 : (m ++ [O.dct []] ++ [O.dct []])[m.length]? = some (.dct []) := by
    rw [List.getElem?_append_left (by rw [List.length_append, List.length_singleton]; omega), List.getElem?_append_right (Nat.le_refl _), Nat.sub_self]; rfl
  have hk2 : (m ++ [O.dct []] ++ [O.dct []])[(m ++ [O.dct []]).length]? = some (.dct []) := by rw [List.getElem?_append_right (Nat.le_refl _), Nat.sub_self]; rfl
  have hF0 : Fr m (m ++ [O.dct []] ++ [O.dct []]) := (Fr.push m _).trans (Fr.push _ _)
  have hml : (m ++ [O.dct []]).length = m.length + 1 := by rw [List.length_append]; rfl
  rw [hml] at hk2 ⊢
  have hml2 : (m ++ [O.dct []] ++ [O.dct []]).length = m.length + 2 := by rw [List.length_append, List.length_append]; rfl
  generalize m ++ [O.dct []] ++ [O.dct []] = m0 at *
  refine w_comp (fun i acc m' => (i = 0 → m' = m0 ∧ acc = []) ∧ (i = 1 → ∃ r, acc = [r] ∧ ((declsOf body = none ∧ r = .non ∧ Fr m m') ∨ ∃ ds f, declsOf body = some ds ∧ r = .tup [.lst [.str c.text], .cell f] ∧ Fr m m' ∧ m.length ≤ f ∧ m'[f]? = some (.lst ds)))) ?_
  refine w_it ?_
  (repeat (walk_at "vi.s0"))
  refine q_split ⟨by simp, by omega⟩ ?_
  rw [one_split (s := 0) (by decide) hr10]
  refine it_lst' ?_
  refine ⟨by simp, ⟨fun _ => ⟨rfl, rfl⟩, fun h => by omega⟩, ?_, ?_⟩
  · rintro i d acc m1 hd ⟨h0, _⟩
    have hi : i = 0 := by
      have := (List.getElem?_eq_some_iff.mp hd).1
      simp only [List.map_cons, List.map_nil, List.length_cons, List.length_nil] at this
      omega
    subst hi
    obtain ⟨rfl, rfl⟩ := h0 rfl
    cases hd
    refine w_name ?_
    refine w_yes (ifq_t ?_)
    show W (eCall f_rule_of (aCons (eVar 3) (aCons (eVar 1) (aCons (eVar 2) aNil))) [some (.str (rowOf c body)), some (.cell m.length), some (.cell (m.length + 1)), some (.str (rowOf c body))] m1) _
    refine w_call ?_
    (repeat (walk_at "vi.s0"))
    refine w_fn (ρ := [some (.str (rowOf c body)), some (.cell m.length), some (.cell (m.length + 1)), none, none, none, none, none]) rfl rfl ?_
    unfold b_rule_of
    have hu : ∀ j, j < 1 → ([32, 123, 32] : List Nat)[j]? ≠ some 123 := by
      intro j hj
      have : j = 0 := by omega
      subst this
      simp
    have hf : findL [32, 123, 32] (rowOf c body) = some c.text.length := find_app (t := [32, 123, 32]) (c := 123) (d := 1) rfl hu C.n123
    have e1 : (rowOf c body).take c.text.length = c.text := List.take_left
    have e2 : (rowOf c body).drop (c.text.length + 3) = body ++ [32, 125] := by
      unfold rowOf
      rw [← List.drop_drop, List.drop_left]
      rfl
    (repeat (walk_at "vi.s0"))
    refine q_part1 (by simp) (by omega) hf ?_
    rw [e1, show c.text.length + ([32, 123, 32] : List Nat).length = c.text.length + 3 from rfl, e2]
    (repeat (walk_at "vi.s0"))
    refine q_ends ?_
    rw [ends_app]
    (repeat (walk_at "vi.s0"))
    refine w_call ?_
    (repeat (walk_at "vi.s0"))
    refine st_selectors_one C hk1 fun m2 F2 => ?_
    have hk22 := F2.at (by omega) hk2
    (repeat (walk_at "vi.s0"))
    refine ⟨.bl false, rfl, ?_⟩
    (repeat (walk_at "vi.s0"))
    refine w_call ?_
    (repeat (walk_at "vi.s0"))
    refine q_removesuffix (by rw [List.length_append]; simp only [List.length_cons, List.length_nil]; omega) ?_
    rw [ends_app, if_pos rfl, take_suffix]
    (repeat (walk_at "vi.s0"))
    have hFr : ∀ {m3 : Mem}, FrK (m.length + 1) m2 m3 → Fr m m3 := fun {m3} F3 => ⟨by have := F2.len; have := F3.len; have := hF0.len; omega, fun i hi => by
      have h2 := F2.len
      rw [F3.same i (by omega) (by omega), F2.same i (by omega) (by omega), hF0.same i hi]⟩
    refine st_declarations_of hk22 KdOk.nil (by simp) (by omega) (fun hd m3 kvs' F3 _ _ _ => ?_) (fun ds hd f m3 kvs' F3 _ _ _ hfl hfm => ?_)
    · (repeat (walk_at "vi.s0"))
      refine ⟨.bl true, rfl, ?_⟩
      (repeat (walk_at "vi.s0"))
      exact ⟨fun h => by omega, fun _ => ⟨_, rfl, .inl ⟨hd, rfl, hFr F3⟩⟩⟩
    · (repeat (walk_at "vi.s0"))
      refine ⟨.bl false, rfl, ?_⟩
      (repeat (walk_at "vi.s0"))
      have h2 := F2.len
      exact ⟨fun h => by omega, fun _ => ⟨_, rfl, .inr ⟨ds, f, hd, rfl, hFr F3, by omega, hfm⟩⟩⟩
  · rintro acc m1 ⟨_, h1⟩
    obtain ⟨r, rfl, h⟩ := h1 rfl
    rcases h with ⟨hd, rfl, F⟩ | ⟨ds, f, hd, rfl, F, hfl, hfm⟩
    · exact q0 hd m1 F
    · exact q1 ds hd f m1 F hfl hfm
end
end Law
end
section
namespace VI
open PySem
/-! dicts that are displays of texts -/
abbrev ent (p : List Nat × D) : L2.Key × D := (.inr (S p.1), p.2)
theorem ent_val (n : List Nat) : ∀ xs : List (List Nat × D), valD (xs.map ent) (.inr (S n)) = xs.lookup n
  | [] => rfl
  | (k, v) :: r => by
    have ih := ent_val n r
    unfold valD at ih ⊢
    rw [List.map_cons, List.find?_cons, List.lookup_cons]
    by_cases h : n = k
    · subst h
      rw [decide_eq_true rfl, beq_self_eq_true]
      rfl
    · have e1 : decide ((ent (k, v)).1 = Sum.inr (S n)) = false := decide_eq_false fun e => h (S_inj (Sum.inr.inj e)).symm
      rw [e1, beq_eq_false_iff_ne.mpr h]
      exact ih
theorem lookup_noD {α : Type} {z : List Nat} : ∀ {xs : List (List Nat × α)}, z ∉ xs.map (·.1) → xs.lookup z = none
  | [], _ => rfl
  | (k, v) :: r, h => by
    rw [List.map_cons, List.mem_cons] at h
    rw [List.lookup_cons]
    split
    · rename_i e
      exact absurd (.inl (by simpa using e)) h
    · exact lookup_noD fun g => h (.inr g)
theorem ent_put {xs : List (List Nat × D)} {n : List Nat} {v : D} (h : n ∉ xs.map (·.1)) : putKD (xs.map ent) (.inr (S n)) v = (xs ++ [(n, v)]).map ent := by
  unfold putKD
  rw [if_neg, List.map_append]
  · rfl
  · intro g
    obtain ⟨p, hp, e⟩ := List.any_eq_true.mp g
    obtain ⟨x, hx, rfl⟩ := List.mem_map.mp hp
    have e2 : x.1 = n := S_inj (Sum.inr.inj (of_decide_eq_true e))
    exact h (List.mem_map.mpr ⟨x, hx, e2⟩)
theorem ent_mergeG : ∀ (xs acc : List (List Nat × D)), ((acc ++ xs).map (·.1)).Nodup → mergeD (acc.map ent) (xs.map ent) = (acc ++ xs).map ent
  | [], acc, _ => by rw [List.append_nil]; rfl
  | (k, v) :: r, acc, h => by
    have hk : k ∉ acc.map (·.1) := by
      rw [List.map_append, List.nodup_append] at h
      intro g
      exact h.2.2 k g k List.mem_cons_self rfl
    have e : mergeD (acc.map ent) (((k, v) :: r).map ent) = mergeD ((acc ++ [(k, v)]).map ent) (r.map ent) := by
      rw [← ent_put hk]
      rfl
    rw [e, ent_mergeG r (acc ++ [(k, v)]) (by rw [List.append_assoc]; exact h), List.append_assoc]
    rfl
theorem ent_merge {xs : List (List Nat × D)} (h : (xs.map (·.1)).Nodup) : mergeD [] (xs.map ent) = xs.map ent := ent_mergeG xs [] h
theorem lookup_mapD {α β : Type} (f : α → β) (z : List Nat) : ∀ xs : List (List Nat × α), (xs.map fun p => (p.1, f p.2)).lookup z = (xs.lookup z).map f
  | [] => rfl
  | (k, v) :: r => by
    rw [List.map_cons, List.lookup_cons, List.lookup_cons]
    show (match z == k with | true => some (f v) | false => (r.map fun p => (p.1, f p.2)).lookup z) = Option.map f (match z == k with | true => some v | false => r.lookup z)
    cases z == k
    · exact lookup_mapD f z r
    · rfl
end VI
end
section
set_option maxHeartbeats 1000000
open PySem VI
namespace Law
/-! the law's own tables -/
abbrev HasBag (b : Nat) (m : Mem) : Prop := ∃ o, m[b]? = some o ∧ BagOk [] o
section
variable {m : Mem} {b : Nat} {Q : D → Mem → Prop}
theorem Fr.bag {m' : Mem} (h : Fr m m') (g : HasBag b m) : HasBag b m' := by
  obtain ⟨o, h1, h2⟩ := g
  exact ⟨o, h.at h1, h2⟩
/-- the twelve properties -/
theorem props_split : splitL litc1d327 [32] = propsL := by
  have e : litc1d327 = TL.joinL [32] propsL := by decide +kernel
  rw [e]
  exact splitL_of (s := 32) (b := []) (by decide) (by decide) (by decide +kernel)
theorem st_props (q : Q (.lst (propsL.map D.str)) m) : W (f__law_props [] m) Q := by
  refine w_fn (ρ := []) rfl rfl ?_
  unfold b__law_props
  (repeat (walk_at "vi.s0"))
  refine q_split ⟨by simp, by decide⟩ ?_
  rw [props_split]
  (repeat (walk_at "vi.s0"))
  exact q
def kLD : List (List Nat × D) := kL.map fun p => (p.1, tB p.2)
theorem st_bounds {n : List Nat} (q : ∀ m', Fr m m' → Q (tB (boundsOf n)) m') : W (f__law_bounds [.str n] m) Q := by
  refine w_fn (ρ := [some (.str n), none]) rfl rfl ?_
  unfold b__law_bounds
  have hc : (m ++ [O.dct []])[m.length]? = some (.dct []) := by rw [List.getElem?_append_right (Nat.le_refl _), Nat.sub_self]; rfl
  (repeat (walk_at "vi.s0"))
  refine ⟨hc, by simp, ?_⟩
  have e : mergeD [] (kLD.map ent) = kLD.map ent := ent_merge (by decide)
  have e' : kLD.map ent = [(.inr (VI.S [100, 111, 119, 110]), tB (-50, 50)), (.inr (VI.S [108, 97, 121, 101, 114]), tB (-9, 9)), (.inr (VI.S [109, 97, 114, 103, 105, 110]), tB (0, 20)), (.inr (VI.S [112, 97, 100]), tB (0, 20)), (.inr (VI.S [114, 105, 103, 104, 116]), tB (-50, 50))] := rfl
  have hcl := (List.getElem?_eq_some_iff.mp hc).1
  (repeat (walk_at "vi.s0"))
  refine ⟨_, _, rfl, List.getElem?_set_self hcl, ?_⟩
  (repeat (walk_at "vi.s0"))
  refine ⟨_, List.getElem?_set_self hcl, ?_⟩
  have e2 : (valD (mergeD [] (kLD.map ent)) (.inr (VI.S n))).getD (.tup [.int 0, .int 200]) = tB (boundsOf n) := by
    rw [e, ent_val]
    unfold kLD boundsOf
    rw [lookup_mapD]
    cases kL.lookup n <;> rfl
  have q2 := q _ ((Fr.push m (O.dct [])).set (Nat.le_refl _) (O.dct (mergeD [] (kLD.map ent))))
  rw [← e2] at q2
  exact q2
def kCS : List (List Nat × List Nat) := [([97, 108, 105, 103, 110], lita8567b), ([98, 97, 99, 107], lita20a0f), ([98, 111, 114, 100, 101, 114], [48, 32, 49]), ([99, 111, 108, 111, 114], lit7da128), (lit59b189, litb2e97e), ([104, 105, 100, 101], [110, 111, 32, 121, 101, 115])]
theorem kC_split : ∀ p ∈ kCS, p.2.length ≤ 100 ∧ (TL.spl [32] 0 [] p.2).filter (fun x => !decide (x = [])) = choicesOf p.1 := by decide +kernel
theorem choices_split (n : List Nat) : ((kCS.lookup n).getD []).length ≤ 100 ∧ (splitL ((kCS.lookup n).getD []) [32]).filter (fun x => !decide (x = [])) = choicesOf n := by
  rw [splitL_spl (by simp) (by decide)]
  cases h : kCS.lookup n with
  | none =>
    refine ⟨by simp, ?_⟩
    have h2 : kC.lookup n = none := by
      refine lookup_noD fun g => ?_
      have e : kC.map (·.1) = kCS.map (·.1) := rfl
      rw [e] at g
      obtain ⟨p, hp, rfl⟩ := List.mem_map.mp g
      revert h
      exact (by decide : ∀ p ∈ kCS, ¬ kCS.lookup p.1 = none) p hp
    unfold choicesOf
    rw [h2]
    rfl
  | some t =>
    have hm : ∀ {xs : List (List Nat × List Nat)} {t : List Nat}, xs.lookup n = some t → (n, t) ∈ xs := by
      intro xs
      induction xs with
      | nil => intro t h; cases h
      | cons x r ih =>
        intro t h
        obtain ⟨k, v⟩ := x
        rw [List.lookup_cons] at h
        split at h
        · rename_i e
          cases h
          have : n = k := by simpa using e
          rw [this]; exact List.mem_cons_self
        · exact List.mem_cons_of_mem _ (ih h)
    have := kC_split _ (hm h)
    exact this
def xs3 : List (List Nat × D) := [([97, 108, 105, 103, 110], D.str lita8567b), ([98, 97, 99, 107], D.str lita20a0f), ([98, 111, 114, 100, 101, 114], D.str [48, 32, 49])]
theorem st_choices {n : List Nat} (q : ∀ m', Fr m m' → Q (.lst ((choicesOf n).map D.str)) m') : W (f__law_choices [.str n] m) Q := by
  refine w_fn (ρ := [some (.str n), none, none]) rfl rfl ?_
  unfold b__law_choices
  have hc : (m ++ [O.dct []])[m.length]? = some (.dct []) := by rw [List.getElem?_append_right (Nat.le_refl _), Nat.sub_self]; rfl
  have hcl := (List.getElem?_eq_some_iff.mp hc).1
  have e3 : mergeD [] [(.inr (VI.S [97, 108, 105, 103, 110]), D.str lita8567b), (.inr (VI.S [98, 97, 99, 107]), D.str lita20a0f), (.inr (VI.S [98, 111, 114, 100, 101, 114]), D.str [48, 32, 49])] = xs3.map ent := ent_merge (xs := xs3) (by decide)
  have e4 : putKD (xs3.map ent) (.inr (VI.S [99, 111, 108, 111, 114])) (D.str lit7da128) = (xs3 ++ [([99, 111, 108, 111, 114], D.str lit7da128)]).map ent := ent_put (by decide)
  have e5 : putKD ((xs3 ++ [([99, 111, 108, 111, 114], D.str lit7da128)]).map ent) (.inr (VI.S lit59b189)) (D.str litb2e97e) = (xs3 ++ [([99, 111, 108, 111, 114], D.str lit7da128)] ++ [(lit59b189, D.str litb2e97e)]).map ent := ent_put (by decide)
  have e6 : putKD ((xs3 ++ [([99, 111, 108, 111, 114], D.str lit7da128)] ++ [(lit59b189, D.str litb2e97e)]).map ent) (.inr (VI.S [104, 105, 100, 101])) (D.str [110, 111, 32, 121, 101, 115]) = (kCS.map fun p => (p.1, D.str p.2)).map ent := ent_put (by decide)
  obtain ⟨hl, hs⟩ := choices_split n
  have e7 : (valD ((kCS.map fun p => (p.1, D.str p.2)).map ent) (.inr (VI.S n))).getD (.str []) = .str ((kCS.lookup n).getD []) := by
    rw [ent_val, lookup_mapD]
    cases kCS.lookup n <;> rfl
  (repeat (walk_at "vi.s0"))
  refine ⟨hc, by simp, ?_⟩
  rw [e3]
  (repeat (walk_at "vi.s0"))
  refine ⟨_, _, rfl, List.getElem?_set_self hcl, by decide, ?_⟩
  rw [List.set_set, e4]
  (repeat (walk_at "vi.s0"))
  refine ⟨_, _, rfl, List.getElem?_set_self hcl, by decide, ?_⟩
  rw [List.set_set, e5]
  (repeat (walk_at "vi.s0"))
  refine ⟨_, _, rfl, List.getElem?_set_self hcl, by decide, ?_⟩
  rw [List.set_set, e6]
  have F := (Fr.push m (O.dct [])).set (c := m.length) (Nat.le_refl _) (O.dct ((kCS.map fun p => (p.1, D.str p.2)).map ent))
  have hg : ((m ++ [O.dct []]).set m.length (O.dct ((kCS.map fun p => (p.1, D.str p.2)).map ent)))[m.length]? = some (O.dct ((kCS.map fun p => (p.1, D.str p.2)).map ent)) := List.getElem?_set_self hcl
  generalize (m ++ [O.dct []]).set m.length (O.dct ((kCS.map fun p => (p.1, D.str p.2)).map ent)) = m1 at F hg ⊢
  generalize m.length = f at hg ⊢
  generalize (kCS.lookup n).getD [] = t at *
  (repeat (walk_at "vi.s0"))
  refine w_comp (fun i acc m' => m' = m1 ∧ acc = (((splitL t [32]).take i).filter (fun x => !decide (x = []))).map D.str) ?_
  refine w_it ?_
  (repeat (walk_at "vi.s0"))
  refine ⟨_, _, rfl, hg, ?_⟩
  (repeat (walk_at "vi.s0"))
  refine ⟨_, hg, ?_⟩
  rw [e7]
  refine ⟨t, rfl, ?_⟩
  (repeat (walk_at "vi.s0"))
  refine q_split ⟨by simp, by omega⟩ ?_
  refine it_lst' ?_
  have hsl := VI.splitL_len (s := t) (t := [32]) (by simp)
  refine ⟨by rw [List.length_map]; omega, ⟨rfl, rfl⟩, ?_, ?_⟩
  · rintro i d acc m2 hd ⟨rfl, rfl⟩
    rw [List.getElem?_map] at hd
    obtain ⟨p, hp, rfl⟩ := Option.map_eq_some_iff.mp hd
    refine w_name ?_
    show W (tV (eOp oNe (eVar 2) (eC (D.str []))) [some (D.str n), some (D.cell f), some (D.str p)] m2) _
    (repeat (walk_at "vi.s0"))
    rw [List.take_add_one, hp]
    refine ifq_d (fun h => ?_) (fun h => ?_)
    · refine ⟨rfl, ?_⟩
      subst h
      rw [List.filter_append]
      simp
    · (repeat (walk_at "vi.s0"))
      rw [List.filter_append]
      simp [h]
  · rintro acc m2 ⟨rfl, rfl⟩
    rw [List.length_map, List.take_length, hs]
    exact q m2 F
end
end Law
end
section
set_option maxHeartbeats 1000000
open PySem VI
namespace Law
theorem lookup_mem {α : Type} {n : List Nat} : ∀ {xs : List (List Nat × α)} {t : α}, xs.lookup n = some t → (n, t) ∈ xs
  | [], t, h => by cases h
  | (k, v) :: r, t, h => by
    rw [List.lookup_cons] at h
    split at h
    · rename_i e
      cases h
      have : n = k := by simpa using e
      rw [this]; exact List.mem_cons_self
    · exact List.mem_cons_of_mem _ (lookup_mem h)
theorem bounds_in (n : List Nat) : -50 ≤ (boundsOf n).1 ∧ (boundsOf n).1 ≤ 0 ∧ 9 ≤ (boundsOf n).2 ∧ (boundsOf n).2 ≤ 200 := by
  unfold boundsOf
  cases h : kL.lookup n with
  | none => exact ⟨by decide, by decide, by decide, by decide⟩
  | some b => exact (by decide : ∀ p ∈ kL, -50 ≤ p.2.1 ∧ p.2.1 ≤ 0 ∧ 9 ≤ p.2.2 ∧ p.2.2 ≤ 200) _ (lookup_mem h)
section
variable {m : Mem} {Q : D → Mem → Prop}
theorem q_str {i : Int} (h : i.natAbs < 1000) (q : Q (.str (numW i)) m) : opQ (bStrI m [.int i]) Q m := q_strI (log_of (k := 10) (by omega) (by decide)) (by rw [strI_numW h]; exact q)
/-- numbers from one to another, written -/
theorem st_ints {lo hi : Int} {ρ : VI.Env} {o : Nat} {it : AF} (h1 : -1000 < lo) (h2 : hi < 1000) (hit : W (it ρ m) fun ds m1 => ds = rngD lo (hi - lo + 1).toNat ∧ m1 = m) (ho : ∀ x, ((wipeD ρ [o]).set o x)[o]? = some x) (q : Q (.lst ((intsW lo hi).map D.str)) m) :
    W (eComp [o] it (gName o) (tYes) (eBlt bStrI (aCons (eVar o) (aNil))) ρ m) Q := by
  refine w_comp (fun i acc m' => m' = m ∧ acc = ((intsW lo hi).take i).map D.str) ?_
  refine hit.mono ?_
  rintro ds m1 ⟨rfl, rfl⟩
  have hil : (intsW lo hi).length = (hi - lo + 1).toNat := by unfold intsW; rw [List.length_map, List.length_range]
  refine ⟨by rw [rngD_len]; omega, ⟨rfl, rfl⟩, ?_, ?_⟩
  · rintro i d acc m2 hd ⟨rfl, rfl⟩
    have hi := (List.getElem?_eq_some_iff.mp hd).1
    rw [rngD_len] at hi
    rw [rngD_get hd]
    refine w_name (w_yes (ifq_t ?_))
    refine w_blt (w_acons (w_var (ho _) (w_anil ?_)))
    refine q_str (by omega) ?_
    refine ⟨rfl, ?_⟩
    have hg : (intsW lo ‹Int›)[i]? = some (numW (lo + (i : Int))) := by
      unfold intsW
      rw [List.getElem?_map, List.getElem?_range hi]
      rfl
    rw [List.take_add_one, hg, List.map_append]
    rfl
  · rintro acc m2 ⟨rfl, rfl⟩
    rw [rngD_len, ← hil, List.take_length]
    exact q
theorem st_row {k : Nat} {ρ : VI.Env} (hk : k ≤ 100) (h2 : ρ[2]? = some (some (.int (k : Int)))) (h2' : ∀ x, ((wipeD ρ [6]).set 6 x)[2]? = some (some (.int (k : Int)))) (h6 : ∀ x, ((wipeD ρ [6]).set 6 x)[6]? = some x) (q : Q (.lst ((partRow k).map D.str)) m) :
    W (eComp [6] (aRng2 (eC (.int 1)) (eOp oAdd (eVar 2) (eC (.int 1)))) (gName 6) (tYes) (eOp oAdd (eOp oAdd (eBlt bStrI (aCons (eVar 6) (aNil))) (eC (.str [47]))) (eBlt bStrI (aCons (eVar 2) (aNil)))) ρ m) Q := by
  refine w_comp (fun i acc m' => m' = m ∧ acc = ((partRow k).take i).map D.str) ?_
  have hil : (partRow k).length = k := by unfold partRow; rw [List.length_map, List.length_range]
  refine w_rng2 ?_
  refine w_c ?_
  refine ⟨1, rfl, by omega, ?_⟩
  refine w_op (w_var h2 (w_c ?_))
  refine q_add ?_
  refine ⟨_, rfl, by omega, ?_⟩
  rw [show ((k : Int) + 1 - 1).toNat = k by omega]
  refine ⟨by rw [rngD_len]; omega, ⟨rfl, rfl⟩, ?_, ?_⟩
  · rintro i d acc m2 hd ⟨rfl, rfl⟩
    have hi := (List.getElem?_eq_some_iff.mp hd).1
    rw [rngD_len] at hi
    rw [rngD_get hd]
    refine w_name (w_yes (ifq_t ?_))
    refine w_op (w_op (w_blt (w_acons (w_var (h6 _) (w_anil ?_)))))
    have hb1 : (1 + (i : Int)).natAbs < 1000 := by omega
    have hb2 : ((k : Int)).natAbs < 1000 := by omega
    have l1 := (numW_len hb1).1
    have l2 := (numW_len hb2).1
    refine q_str hb1 ?_
    refine w_c ?_
    refine q_addS (by simp only [List.length_cons, List.length_nil]; omega) ?_
    refine w_blt (w_acons (w_var (h2' _) (w_anil ?_)))
    refine q_str hb2 ?_
    refine q_addS (by rw [List.length_append]; simp only [List.length_cons, List.length_nil]; omega) ?_
    refine ⟨rfl, ?_⟩
    have hg : (partRow k)[i]? = some ((numW (1 + (i : Int)) ++ [47]) ++ numW (k : Int)) := by
      unfold partRow
      rw [List.getElem?_map, List.getElem?_range hi]
      show some (partW (i + 1) k) = _
      unfold partW
      rw [show ((i + 1 : Nat) : Int) = 1 + (i : Int) by omega, List.append_assoc]
      rfl
    rw [List.take_add_one, hg, List.map_append]
    rfl
  · rintro acc m2 ⟨rfl, rfl⟩
    rw [rngD_len]
    have e : (partRow k).take k = partRow k := List.take_of_length_le (by omega)
    rw [e]
    exact q
theorem choices_len (n : List Nat) : (choicesOf n).length ≤ 5 ∧ ∀ x ∈ choicesOf n, x ≠ [] ∧ x.length ≤ 7 := by
  unfold choicesOf
  cases h : kC.lookup n with
  | none => exact ⟨by simp, fun x hx => by cases hx⟩
  | some b => exact (by decide : ∀ p ∈ kC, p.2.length ≤ 5 ∧ ∀ x ∈ p.2, x ≠ [] ∧ x.length ≤ 7) _ (lookup_mem h)
def fracsTo (i : Nat) : List (List Nat) := ((List.range i).map fun m => autoW :: partRow (m + 1)).flatten
theorem fracsTo_succ (i : Nat) : fracsTo (i + 1) = fracsTo i ++ (autoW :: partRow (i + 1)) := by
  unfold fracsTo
  rw [List.range_succ, List.map_append, List.flatten_append]
  simp
theorem fracsTo_len : ∀ i : Nat, (fracsTo i).length ≤ i * (i + 1)
  | 0 => Nat.le_refl _
  | i + 1 => by
    have h := fracsTo_len i
    have hr : (partRow (i + 1)).length = i + 1 := by unfold partRow; rw [List.length_map, List.length_range]
    rw [fracsTo_succ, List.length_append, List.length_cons, hr]
    have e : (i + 1) * (i + 1 + 1) = i * (i + 1) + (i + 1) + (i + 1) := by
      rw [Nat.mul_add (i + 1), Nat.add_mul]
      omega
    omega
theorem st_values {n : List Nat} (q : ∀ m', Fr m m' → Q (.lst ((valuesOf n).map D.str)) m') : W (f__law_values [.str n] m) Q := by
  refine w_fn (ρ := [some (.str n), none, none, none, none, none, none]) rfl rfl ?_
  unfold b__law_values
  have hcl := choices_len n
  have hbn := bounds_in n
  unfold valuesOf at q
  (repeat (walk_at "vi.s0"))
  refine w_call ?_
  (repeat (walk_at "vi.s0"))
  refine st_props ?_
  refine q_ninL propsL rfl ?_
  (repeat (walk_at "vi.s0"))
  refine ifq_d (fun hin => ?_) (fun hout => ?_)
  · rw [if_neg (fun g => g hin)] at q
    (repeat (walk_at "vi.s0"))
    refine w_call ?_
    (repeat (walk_at "vi.s0"))
    refine st_choices fun m1 F1 => ?_
    refine q_addL (by rw [List.length_map]; simp only [List.length_cons, List.length_nil]; omega) ?_
    have e1 : ([D.str lit3e26d6] ++ (choicesOf n).map D.str) = (inh :: choicesOf n).map D.str := rfl
    rw [e1]
    (repeat (walk_at "vi.s0"))
    rw [List.length_map]
    refine ifq_d (fun h1 => ?_) (fun h1 => ?_)
    · rw [if_pos (by omega)] at q
      (repeat (walk_at "vi.s0"))
      exact q m1 F1
    · rw [if_neg (by omega)] at q
      have hl0 : (inh :: choicesOf n).length ≤ 1 := by omega
      generalize inh :: choicesOf n = f0 at *
      (repeat (walk_at "vi.s0"))
      refine w_call ?_
      (repeat (walk_at "vi.s0"))
      refine st_bounds fun m2 F2 => ?_
      have F := F1.trans F2
      unfold tB
      generalize boundsOf n = bb at *
      obtain ⟨lo, hi⟩ := bb
      dsimp only at hbn q ⊢
      have hil : (intsW lo hi).length ≤ 251 := by unfold intsW; rw [List.length_map, List.length_range]; omega
      (repeat (walk_at "vi.s0"))
      refine st_ints (lo := lo) (hi := hi) (by omega) (by omega) ?_ (fun _ => rfl) ?_
      · refine w_rng2 ?_
        (repeat (walk_at "vi.s0"))
        refine ⟨by omega, ?_⟩
        (repeat (walk_at "vi.s0"))
        refine ⟨by omega, ?_⟩
        exact ⟨by rw [show hi + 1 - lo = hi - lo + 1 by omega], rfl⟩
      refine q_addL (by rw [List.length_map, List.length_map]; omega) ?_
      rw [← List.map_append]
      have hl1 : (f0 ++ intsW lo hi).length ≤ 252 := by rw [List.length_append]; omega
      generalize f0 ++ intsW lo hi = f1 at *
      (repeat (walk_at "vi.s0"))
      refine w_for (fun i ρ m' => ∃ x2 x6, ρ = [some (.str n), some (.lst ((f1 ++ fracsTo i).map D.str)), x2, some (.int lo), some (.int hi), none, x6] ∧ m' = m2) ?_
      have hrng : ∀ k : Nat, W (aRng2 (eC (.int 1)) (eOp oMul (eC (.int 13)) (eBlt bInt (aCons (eOp oEq (eVar 0) (eC (.str [119, 105, 100, 116, 104]))) (aNil)))) [some (.str n), some (.lst (f1.map D.str)), none, some (.int lo), some (.int hi), none, none] m2) (fun ds m1 => ds = rngD 1 (if n = pWidth then 12 else 0) ∧ m1 = m2) := by
        intro k
        refine w_rng2 ?_
        (repeat (walk_at "vi.s0"))
        refine ⟨by omega, ?_⟩
        (repeat (walk_at "vi.s0"))
        refine q_mulL (by omega) ?_
        by_cases hw : n = pWidth
        · rw [decide_eq_true (show n = [119, 105, 100, 116, 104] from hw), if_pos rfl, if_pos hw]
          exact ⟨_, rfl, by omega, rfl, rfl⟩
        · rw [decide_eq_false (show ¬ n = [119, 105, 100, 116, 104] from hw), if_neg (by simp), if_neg hw]
          exact ⟨_, rfl, by omega, rfl, rfl⟩
      refine (hrng 0).mono ?_
      rintro ds m1' ⟨rfl, rfl⟩
      refine ⟨⟨none, none, by rw [show fracsTo 0 = [] from rfl, List.append_nil], rfl⟩, ?_, ?_⟩
      · rintro i d ρ m3 hd ⟨x2, x6, rfl, rfl⟩
        have hi12 : i < 12 := by
          have := (List.getElem?_eq_some_iff.mp hd).1
          rw [rngD_len] at this
          split at this <;> omega
        have hfl := fracsTo_len i
        have hfl2 : (fracsTo i).length ≤ 200 := Nat.le_trans hfl (Nat.le_trans (Nat.mul_le_mul (Nat.le_of_lt hi12) (Nat.succ_le_succ (Nat.le_of_lt hi12))) (by decide))
        have hrl : (partRow (i + 1)).length = i + 1 := by unfold partRow; rw [List.length_map, List.length_range]
        rw [rngD_get hd, show (1 : Int) + (i : Int) = ((i + 1 : Nat) : Int) by omega]
        (repeat (walk_at "vi.s0"))
        refine q_addL (by rw [List.length_map, List.length_append]; simp only [List.length_cons, List.length_nil]; omega) ?_
        (repeat (walk_at "vi.s0"))
        refine st_row (k := i + 1) (by omega) rfl (fun _ => rfl) (fun _ => rfl) ?_
        refine q_addL (by rw [List.length_append, List.length_map, List.length_map, List.length_append]; simp only [List.length_cons, List.length_nil]; omega) ?_
        (repeat (walk_at "vi.s0"))
        refine ⟨some (.int ((i + 1 : Nat) : Int)), x6, ?_, rfl⟩
        have e : (f1 ++ fracsTo (i + 1)).map D.str = (f1 ++ fracsTo i).map D.str ++ [D.str [97, 117, 116, 111]] ++ (partRow (i + 1)).map D.str := by
          rw [fracsTo_succ, ← List.append_assoc, List.map_append, List.map_cons, List.append_assoc]
          rfl
        rw [e]
      · rintro ρ m3 ⟨x2, x6, rfl, rfl⟩
        rw [rngD_len]
        (repeat (walk_at "vi.s0"))
        have e : f1 ++ fracsTo (if n = pWidth then 12 else 0) = f1 ++ (if n = pWidth then fracsW else []) := by
          by_cases hw : n = pWidth
          · rw [if_pos hw, if_pos hw]; rfl
          · rw [if_neg hw, if_neg hw]; rfl
        rw [e]
        exact q _ F
  · rw [if_pos hout] at q
    (repeat (walk_at "vi.s0"))
    exact q m (Fr.refl m)
end
end Law
end
section
set_option maxHeartbeats 1000000
open PySem VI
namespace Law
/-! values drawn -/
def badS : List Nat := [32, 59, 123, 125, 10]
structure Simp (v : List Nat) : Prop where
  ne : v ≠ []
  len : v.length ≤ 60
  ok : ∀ c ∈ v, c ∉ badS
theorem no_space_value {v : List Nat} (h0 : v ≠ []) (h : ∀ c ∈ v, c ∉ badS) : isValue v = true ∧ endsL v [32, 33] = false := by
  have h32 : 32 ∉ v := fun g => h 32 g (by decide)
  constructor
  · unfold isValue
    rw [decide_eq_true h0, decide_eq_true ((strip_self h0).mpr ⟨fun g => h32 (List.mem_of_head? g), fun g => h32 (List.mem_of_getLast? g)⟩), Bool.true_and, Bool.true_and, List.all_eq_true]
    intro c hc
    rw [decide_eq_false fun g => h c g (by
      simp only [barred, badS, List.mem_cons, List.not_mem_nil, or_false] at hc ⊢
      omega)]
    rfl
  · unfold endsL
    rw [decide_eq_false_iff_not]
    rintro ⟨h1, h2⟩
    have : 32 ∈ v.drop (v.length - ([32, 33] : List Nat).length) := by rw [h2]; simp
    exact h32 (List.mem_of_mem_drop this)
/-- what may be declared -/
structure Calm (v : List Nat) : Prop where
  val : isValue v = true
  end_ : endsL v [32, 33] = false
  len : v.length ≤ 300
  n59 : 59 ∉ v
  n10 : 10 ∉ v
theorem value_no {v : List Nat} (h : isValue v = true) : 59 ∉ v ∧ 10 ∉ v := by
  unfold isValue at h
  rw [Bool.and_eq_true, Bool.and_eq_true, List.all_eq_true] at h
  have h3 := h.2.2
  constructor
  · intro g
    have := h3 59 (by decide)
    rw [decide_eq_true g] at this
    cases this
  · intro g
    have := h3 10 (by decide)
    rw [decide_eq_true g] at this
    cases this
theorem Simp.calm {v : List Nat} (h : Simp v) : Calm v := by
  obtain ⟨h1, h2⟩ := no_space_value h.ne h.ok
  obtain ⟨h3, h4⟩ := value_no h1
  exact ⟨h1, h2, by have := h.len; omega, h3, h4⟩
theorem num_simp {i : Int} (h : i.natAbs < 1000) : Simp (numW i) := by
  obtain ⟨h1, h2⟩ := numW_len h
  refine ⟨h2, by omega, fun c hc => ?_⟩
  have := numW_signs h c hc
  simp only [badS, List.mem_cons, List.not_mem_nil, or_false]
  omega
theorem part_simp {n m : Nat} (hn : n < 1000) (hm : m < 1000) : Simp (partW n m) := by
  have h1 := num_simp (i := (n : Int)) (by omega)
  have h2 := num_simp (i := (m : Int)) (by omega)
  have l1 := (numW_len (i := (n : Int)) (by omega)).1
  have l2 := (numW_len (i := (m : Int)) (by omega)).1
  unfold partW
  refine ⟨by simp, by rw [List.length_append, List.length_cons]; omega, fun c hc => ?_⟩
  rcases List.mem_append.mp hc with g | g
  · exact h1.ok c g
  · rcases List.mem_cons.mp g with rfl | g
    · decide
    · exact h2.ok c g
theorem choices_simp {n x : List Nat} (h : x ∈ choicesOf n) : Simp x := by
  unfold choicesOf at h
  cases hk : kC.lookup n with
  | none => rw [hk] at h; cases h
  | some b =>
    rw [hk] at h
    have := (by decide : ∀ p ∈ kC, ∀ x ∈ p.2, x ≠ [] ∧ x.length ≤ 60 ∧ ∀ c ∈ x, c ∉ badS) _ (lookup_mem hk) x h
    exact ⟨this.1, this.2.1, this.2.2⟩
theorem q_pickW {ws : List (List Nat)} {ds : List D} {i : Int} {m : Mem} {Q : D → Mem → Prop} (hd : ds = ws.map D.str) (h0 : 0 ≤ i) (h1 : i < ws.length) (q : ∀ x ∈ ws, Q (.str x) m) : opQ (oIx m (.lst ds) (.int i)) Q m := by
  subst hd
  refine q_pickL h0 (by rw [List.length_map]; exact h1) fun d hd => ?_
  obtain ⟨x, hx, rfl⟩ := List.mem_map.mp hd
  exact q x hx
/-- the bag, and all that stood in m0 beside it -/
structure BagF (b : Nat) (m0 m : Mem) : Prop where
  bag : HasBag b m
  fr : FrK b m0 m
theorem Fr.bagF {b : Nat} {m0 m m' : Mem} (h : Fr m m') (g : BagF b m0 m) : BagF b m0 m' := ⟨h.bag g.bag, g.fr.trans h.toK⟩
section
variable {m m0 : Mem} {b : Nat} {Q : D → Mem → Prop}
theorem BagF.draw (h : BagF b m0 m) {many : Int} (h1 : 1 ≤ many) (h2 : many < 1267650600228229401496703205376) (q : ∀ r m', 0 ≤ r → r < many → BagF b m0 m' → Q (.int r) m') : W (f__law_draw [.cell b, .int many] m) Q :=
  st_draw h.bag h1 h2 fun r m' r0 r1 E => q r m' r0 r1 ⟨E.bag, h.fr.trans ⟨E.len, E.oth⟩⟩
theorem values_of_choice {n x : List Nat} (h0 : n ∈ propsL) (h : x ∈ choicesOf n) : x ∈ valuesOf n := by
  unfold valuesOf
  rw [if_neg (fun g => g h0), if_pos (by rw [List.length_cons]; have := List.length_pos_of_mem h; omega)]
  exact List.mem_cons_of_mem _ h
theorem values_inh {n : List Nat} (h0 : n ∈ propsL) : inh ∈ valuesOf n := by
  unfold valuesOf
  rw [if_neg (fun g => g h0)]
  split
  · exact List.mem_cons_self
  · exact List.mem_append_left _ (List.mem_append_left _ List.mem_cons_self)
theorem values_num {n : List Nat} (h0 : n ∈ propsL) (h : choicesOf n = []) {i : Int} (h1 : (boundsOf n).1 ≤ i) (h2 : i ≤ (boundsOf n).2) : numW i ∈ valuesOf n := by
  unfold valuesOf
  rw [if_neg (fun g => g h0), h, if_neg (by simp)]
  refine List.mem_append_left _ (List.mem_append_right _ ?_)
  unfold intsW
  refine List.mem_map.mpr ⟨(i - (boundsOf n).1).toNat, List.mem_range.mpr (by omega), ?_⟩
  congr 1
  omega
/-- a value that the property has -/
theorem st_value {n : List Nat} (hb : BagF b m0 m) (hn : n ∈ propsL) (q : ∀ v m', v ∈ valuesOf n → Simp v → BagF b m0 m' → Q (.str v) m') : W (f__law_value [.cell b, .str n] m) Q := by
  refine w_fn (ρ := [some (.cell b), some (.str n), none, none, none, none, none]) rfl rfl ?_
  unfold b__law_value
  have hcl := choices_len n
  have hbn := bounds_in n
  (repeat (walk_at "vi.s0"))
  refine w_call ?_
  (repeat (walk_at "vi.s0"))
  refine st_choices fun m1 F1 => ?_
  have hb1 := F1.bagF hb
  (repeat (walk_at "vi.s0"))
  by_cases hc : choicesOf n = []
  · rw [hc]
    refine ifq_t ?_
    (repeat (walk_at "vi.s0"))
    refine w_call ?_
    (repeat (walk_at "vi.s0"))
    refine hb1.draw (by omega) (by omega) fun r3 m3 r30 r31 hb3 => ?_
    (repeat (walk_at "vi.s0"))
    refine w_call ?_
    (repeat (walk_at "vi.s0"))
    refine hb3.draw (by omega) (by omega) fun r4 m4 r40 r41 hb4 => ?_
    have num : W (bSeq (bSet (gTup 2 (gCons (gName 5) (gCons (gName 6) (gNil)))) (eCall f__law_bounds (aCons (eVar 1) (aNil)))) (bRet (eBlt bStrI (aCons (eOp oAdd (eVar 5) (eCall f__law_draw (aCons (eVar 0) (aCons (eOp oAdd (eOp oSub (eVar 6) (eVar 5)) (eC (.int 1))) (aNil))))) (aNil)))) [some (.cell b), some (.str n), some (.lst (List.map D.str [])), some (.int (1 + r3)), some (.int r4), none, none] m4) (retQ Q) := by
      (repeat (walk_at "vi.s0"))
      refine w_call ?_
      (repeat (walk_at "vi.s0"))
      refine st_bounds fun m5 F5 => ?_
      have hb5 := F5.bagF hb4
      have hv : ∀ i : Int, (boundsOf n).1 ≤ i → i ≤ (boundsOf n).2 → numW i ∈ valuesOf n := fun i h1 h2 => values_num hn hc h1 h2
      unfold tB
      generalize boundsOf n = bb at *
      obtain ⟨lo, hi⟩ := bb
      dsimp only at hbn hv ⊢
      (repeat (walk_at "vi.s0"))
      refine w_call ?_
      (repeat (walk_at "vi.s0"))
      refine hb5.draw (by omega) (by omega) fun r6 m6 r60 r61 hb6 => ?_
      (repeat (walk_at "vi.s0"))
      refine q_str (by omega) ?_
      (repeat (walk_at "vi.s0"))
      exact q _ m6 (hv _ (by omega) (by omega)) (num_simp (by omega)) hb6
    refine w_name4 ?_
    refine seq_nx ?_
    refine w_seq ?_
    refine w_bif ?_
    refine w_tand ?_
    refine w_tv ?_
    refine w_op (w_var rfl (w_c ?_))
    refine q_eqS ?_
    refine blq ?_
    refine ifq_d (fun hw => ?_) (fun hw => ?_)
    · refine w_tv ?_
      refine w_op (w_var rfl (w_c ?_))
      refine q_lt ?_
      refine blq ?_
      refine ifq_d (fun h2 => ?_) (fun h2 => ?_)
      · (repeat (walk_at "vi.s0"))
        refine w_call ?_
        (repeat (walk_at "vi.s0"))
        refine hb4.draw (by omega) (by omega) fun r6 m6 r60 r61 hb6 => ?_
        (repeat (walk_at "vi.s0"))
        refine q_str (by omega) ?_
        have l1 := (numW_len (i := 1 + r6) (by omega)).1
        have l2 := (numW_len (i := 1 + r3) (by omega)).1
        (repeat (walk_at "vi.s0"))
        refine q_addS (by simp only [List.length_cons, List.length_nil]; omega) ?_
        (repeat (walk_at "vi.s0"))
        refine q_str (by omega) ?_
        refine q_addS (by rw [List.length_append]; simp only [List.length_cons, List.length_nil]; omega) ?_
        (repeat (walk_at "vi.s0"))
        have ep : numW (1 + r6) ++ [47] ++ numW (1 + r3) = partW (r6.toNat + 1) (r3.toNat + 1) := by
          unfold partW
          rw [List.append_assoc, show ((r6.toNat + 1 : Nat) : Int) = 1 + r6 by omega, show ((r3.toNat + 1 : Nat) : Int) = 1 + r3 by omega]
          rfl
        rw [ep]
        refine q_pickW (ws := [autoW, partW (r6.toNat + 1) (r3.toNat + 1)]) rfl r40 (by simp only [List.length_cons, List.length_nil]; omega) fun x hx => ?_
        have hw2 : n = pWidth := hw
        have hf : x ∈ fracsW ∧ Simp x := by
          simp only [List.mem_cons, List.not_mem_nil, or_false] at hx
          rcases hx with rfl | rfl
          · exact ⟨fracs_mem.mpr (.inl rfl), ⟨by decide, by decide, by decide⟩⟩
          · refine ⟨fracs_mem.mpr (.inr (List.mem_flatten.mpr ⟨partRow (r3.toNat + 1), List.mem_map.mpr ⟨r3.toNat, List.mem_range.mpr (by omega), rfl⟩, List.mem_map.mpr ⟨r6.toNat, List.mem_range.mpr (by omega), rfl⟩⟩)), part_simp (by omega) (by omega)⟩
        refine q x m6 ?_ hf.2 hb6
        rw [hw2, values_width]
        exact List.mem_cons_of_mem _ (List.mem_append_right _ hf.1)
      · refine w_bnil ?_
        refine seq_nx ?_
        exact num
    · refine ifq_f ?_
      refine w_bnil ?_
      refine seq_nx ?_
      exact num
  · have he : (List.map D.str (choicesOf n)).isEmpty = false := by
      cases h : choicesOf n with
      | nil => exact absurd h hc
      | cons x r => rfl
    rw [he]
    refine ifq_f ?_
    (repeat (walk_at "vi.s0"))
    refine w_call ?_
    (repeat (walk_at "vi.s0"))
    rw [List.length_map]
    have hpos := List.length_pos_iff.mpr hc
    refine hb1.draw (by omega) (by omega) fun r m2 r0 r1 hb2 => ?_
    refine q_pickW rfl r0 r1 fun x hx => ?_
    (repeat (walk_at "vi.s0"))
    exact q x m2 (values_of_choice hn hx) (choices_simp hx) hb2
end
end Law
end
section
set_option maxHeartbeats 4000000
open PySem VI
namespace Law
/-! what is passed over -/
def oddN : List (List Nat) := [[99, 111, 108, 111, 114, 115], lit09a99f, [122], [119, 105, 100, 116], [108, 111, 111, 107], [105, 100], [97, 108, 105, 103, 110, 115]]
def redW : List Nat := [114, 101, 100]
def someL (lo hi : Int) : List (List Nat) :=
  ((([[45, 48], [48, 48], [48, 49], [43, 49], [49, 46, 48], [49, 32, 48], [114, 101, 100, 33], [33], lit759d34, [65, 117, 116, 111], [49, 47, 48], [48, 47, 49], [49, 51, 47, 49, 51]] ++
  [[49, 47, 50, 47, 51], [47], [45, 49, 47, 50], [48, 49, 47, 50], [110, 111, 32, 110, 101], [35, 49], [49, 47], [45, 45, 49], lit5a4984, [49, 58, 32, 50], (List.replicate (Int.toNat 19) [57]).flatten]) ++
  [[50, 47, 49], [49, 47, 49, 51], numW (hi + 1), numW (lo - 1)]) ++
  [[39, 120, 39], [114, 103, 98, 40, 48, 41], [97, 95, 98], [120, 32, 38, 32, 121], [82, 101, 100], (List.replicate (Int.toNat 200) [120]).flatten])
theorem odd_ok : ∀ p ∈ oddN, isWord p = true ∧ p ∉ propsL ∧ p.length ≤ 12 := by decide +kernel
theorem some_ok : ∀ n ∈ propsL, ∀ v ∈ someL (boundsOf n).1 (boundsOf n).2, v ∉ valuesOf n ∧ isValue v = true ∧ endsL v [32, 33] = false ∧ v.length ≤ 300 := by decide +kernel
theorem props_word : ∀ n ∈ propsL, isWord n = true ∧ n.length ≤ 12 := by decide +kernel
theorem isWord_no {n : List Nat} (h : isWord n = true) {c : Nat} (hc : c ∉ lit6e3145) : c ∉ n := by
  intro g
  unfold isWord at h
  rw [Bool.and_eq_true, List.all_eq_true] at h
  exact hc (of_decide_eq_true (h.2 c g))
/-- a declaration of the law -/
structure DeclOk (p v : List Nat) (ok : Bool) : Prop where
  w : isWord p = true
  c : Calm v
  has : hasP p v = ok
theorem DeclOk.len {p v : List Nat} {ok : Bool} (h : DeclOk p v ok) : p.length ≤ 12 := by
  have := h.w
  unfold isWord at this
  simp only [Bool.and_eq_true, decide_eq_true_eq] at this
  exact this.1.1.2
def declT (p v : List Nat) (st : Bool) : List Nat := p ++ ([58, 32] ++ (v ++ (if st then [32, 33] else [])))
theorem declW_T {p v : List Nat} {st : Bool} (hp : isWord p = true) (hv : isValue v = true) (he : endsL v [32, 33] = false) : declW (declT p v st) = some (p, v, st) := by
  have hf : findL [58, 32] (declT p v st) = some p.length := find_app (t := [58, 32]) (c := 58) (d := 0) rfl (fun j hj => absurd hj (Nat.not_lt_zero _)) (isWord_no hp (by decide))
  have e1 : (declT p v st).take p.length = p := List.take_left
  have e2 : (declT p v st).drop (p.length + 2) = v ++ (if st then [32, 33] else []) := by
    unfold declT
    rw [← List.drop_drop, List.drop_left]
    rfl
  unfold declW
  rw [hf]
  dsimp only
  rw [e1, e2]
  cases st with
  | true =>
    rw [if_pos rfl, ends_app, if_pos rfl]
    have e3 : (v ++ [32, 33]).take ((v ++ [32, 33]).length - 2) = v := take_suffix v [32, 33]
    rw [e3, hp, hv]
    rfl
  | false =>
    have e4 : (v ++ if false = true then [32, 33] else []) = v := List.append_nil v
    rw [e4, he]
    have e5 : (if false = true then v.take (v.length - 2) else v) = v := rfl
    rw [e5, hp, hv]
    rfl
theorem declT_no {p v : List Nat} {st : Bool} {c : Nat} (hp : isWord p = true) (h1 : c ∉ lit6e3145) (h2 : c ∉ v) (h3 : c ≠ 58 ∧ c ≠ 32 ∧ c ≠ 33) : c ∉ declT p v st := by
  unfold declT
  intro g
  simp only [List.mem_append, List.mem_cons, List.not_mem_nil, or_false] at g
  rcases g with g | (g | g) | g | g
  · exact isWord_no hp h1 g
  · exact h3.1 g
  · exact h3.2.1 g
  · exact h2 g
  · cases st
    · cases g
    · simp only [if_true, List.mem_cons, List.not_mem_nil, or_false] at g
      omega
theorem declT_len {p v : List Nat} {st : Bool} : (declT p v st).length ≤ p.length + v.length + 4 := by
  unfold declT
  simp only [List.length_append, List.length_cons, List.length_nil]
  cases st <;> simp only [if_true, Bool.false_eq_true, if_false, List.length_cons, List.length_nil] <;> omega
section
variable {m m0 : Mem} {b : Nat} {Q : D → Mem → Prop}
theorem st_no_value {n : List Nat} (hb : BagF b m0 m) (hn : n ∈ propsL) (q : ∀ p v m', DeclOk p v false → BagF b m0 m' → Q (.tup [.str p, .str v]) m') : W (f__law_no_value [.cell b, .str n] m) Q := by
  refine w_fn (ρ := [some (.cell b), some (.str n), none, none, none]) rfl rfl ?_
  unfold b__law_no_value
  have hbn := bounds_in n
  have hso := some_ok n hn
  (repeat (walk_at "vi.s0"))
  refine w_call ?_
  (repeat (walk_at "vi.s0"))
  refine hb.draw (by omega) (by omega) fun r1 m1 r10 r11 hb1 => ?_
  (repeat (walk_at "vi.s0"))
  refine ifq_d (fun h0 => ?_) (fun h0 => ?_)
  · (repeat (walk_at "vi.s0"))
    refine w_call ?_
    (repeat (walk_at "vi.s0"))
    refine hb1.draw (by omega) (by omega) fun r2 m2 r20 r21 hb2 => ?_
    refine q_pickW (ws := oddN) rfl r20 r21 fun x hx => ?_
    (repeat (walk_at "vi.s0"))
    obtain ⟨h1, h2, h3⟩ := odd_ok x hx
    have hv : Simp redW := ⟨by decide, by decide, by decide⟩
    refine q x redW m2 ⟨h1, hv.calm, hasP_no h2⟩ hb2
  · (repeat (walk_at "vi.s0"))
    refine q_mulS ⟨by omega, by omega, by decide⟩ ?_
    (repeat (walk_at "vi.s0"))
    refine q_addL (by simp) ?_
    (repeat (walk_at "vi.s0"))
    refine w_call ?_
    (repeat (walk_at "vi.s0"))
    refine st_bounds fun m2 F2 => ?_
    have hb2 := F2.bagF hb1
    unfold tB
    generalize boundsOf n = bb at *
    obtain ⟨lo, hi⟩ := bb
    dsimp only at hbn hso ⊢
    (repeat (walk_at "vi.s0"))
    refine opq (d := .int hi) (by show _ = some (D.int (if (1 : Int) > hi then 1 else hi)); rw [if_neg (by omega)]) ?_
    (repeat (walk_at "vi.s0"))
    refine q_str (by omega) ?_
    (repeat (walk_at "vi.s0"))
    refine opq (d := .int lo) (by show _ = some (D.int (if (0 : Int) < lo then 0 else lo)); rw [if_neg (by omega)]) ?_
    (repeat (walk_at "vi.s0"))
    refine q_str (by omega) ?_
    (repeat (walk_at "vi.s0"))
    refine q_addL (by simp) ?_
    (repeat (walk_at "vi.s0"))
    refine q_mulS ⟨by omega, by omega, by decide⟩ ?_
    (repeat (walk_at "vi.s0"))
    refine q_addL (by simp) ?_
    (repeat (walk_at "vi.s0"))
    refine w_call ?_
    (repeat (walk_at "vi.s0"))
    refine hb2.draw (by simp only [List.length_append, List.length_cons, List.length_nil]; omega) (by simp only [List.length_append, List.length_cons, List.length_nil]; omega) fun r2 m3 r20 r21 hb3 => ?_
    refine q_pickW (ws := someL lo hi) rfl r20 r21 fun x hx => ?_
    (repeat (walk_at "vi.s0"))
    obtain ⟨h1, h2, h3, h4⟩ := hso x hx
    obtain ⟨g1, g2⟩ := value_no h2
    refine q n x m3 ⟨(props_word n hn).1, ⟨h2, h3, h4, g1, g2⟩, ?_⟩ hb3
    rw [hasP_mem, decide_eq_false h1]
theorem st_declaration (hb : BagF b m0 m) (q : ∀ p v st ok m', DeclOk p v ok → BagF b m0 m' → Q (.tup [.str p, .str v, .bl st, .bl ok]) m') : W (f__law_declaration [.cell b] m) Q := by
  refine w_fn (ρ := [some (.cell b), none, none, none]) rfl rfl ?_
  unfold b__law_declaration
  (repeat (walk_at "vi.s0"))
  refine w_call ?_
  (repeat (walk_at "vi.s0"))
  refine st_props ?_
  (repeat (walk_at "vi.s0"))
  refine w_call ?_
  (repeat (walk_at "vi.s0"))
  refine hb.draw (by omega) (by omega) fun r1 m1 r10 r11 hb1 => ?_
  refine q_pickW (ws := propsL) rfl r10 r11 fun n hn => ?_
  (repeat (walk_at "vi.s0"))
  refine w_call ?_
  (repeat (walk_at "vi.s0"))
  refine hb1.draw (by omega) (by omega) fun r2 m2 r20 r21 hb2 => ?_
  (repeat (walk_at "vi.s0"))
  generalize decide (r2 = 3) = st
  refine w_call ?_
  (repeat (walk_at "vi.s0"))
  refine hb2.draw (by omega) (by omega) fun r3 m3 r30 r31 hb3 => ?_
  (repeat (walk_at "vi.s0"))
  refine ifq_d (fun h9 => ?_) (fun h9 => ?_)
  · (repeat (walk_at "vi.s0"))
    refine w_call ?_
    (repeat (walk_at "vi.s0"))
    refine st_no_value hb3 hn fun p v m4 hd hb4 => ?_
    (repeat (walk_at "vi.s0"))
    refine q_addT (by simp) ?_
    (repeat (walk_at "vi.s0"))
    exact q p v st false m4 hd hb4
  · (repeat (walk_at "vi.s0"))
    refine ifq_d (fun h8 => ?_) (fun h8 => ?_)
    · (repeat (walk_at "vi.s0"))
      have hv : Simp inh := ⟨by decide, by decide, by decide⟩
      refine q n inh st true m3 ⟨(props_word n hn).1, hv.calm, ?_⟩ hb3
      rw [hasP_mem, decide_eq_true (values_inh hn)]
    · (repeat (walk_at "vi.s0"))
      refine w_call ?_
      (repeat (walk_at "vi.s0"))
      refine st_value hb3 hn fun v m4 hv hs hb4 => ?_
      (repeat (walk_at "vi.s0"))
      refine q n v st true m4 ⟨(props_word n hn).1, hs.calm, ?_⟩ hb4
      rw [hasP_mem, decide_eq_true hv]
theorem st_declared {p v : List Nat} {st : Bool} {y : List D} (h1 : p.length ≤ 1000) (h2 : v.length ≤ 1000) (q : Q (.str (declT p v st)) m) : W (f__law_declared [.tup (.str p :: .str v :: .bl st :: y)] m) Q := by
  refine w_fn (ρ := [some (.tup (.str p :: .str v :: .bl st :: y))]) rfl rfl ?_
  unfold b__law_declared
  (repeat (walk_at "vi.s0"))
  refine q_ixT (atI_ok 0 rfl rfl) ?_
  (repeat (walk_at "vi.s0"))
  refine q_addS (by show _ + 2 ≤ _; omega) ?_
  (repeat (walk_at "vi.s0"))
  refine q_ixT (atI_ok 1 rfl rfl) ?_
  refine q_addS (by simp only [List.length_append, List.length_cons, List.length_nil]; omega) ?_
  (repeat (walk_at "vi.s0"))
  refine q_ixT (atI_ok 2 rfl rfl) ?_
  (repeat (walk_at "vi.s0"))
  cases st with
  | true =>
    refine q_ixL (d := .str [32, 33]) (atI_ok 1 rfl rfl) ?_
    refine q_addS (by simp only [List.length_append, List.length_cons, List.length_nil]; omega) ?_
    (repeat (walk_at "vi.s0"))
    have e : p ++ [58, 32] ++ v ++ [32, 33] = declT p v true := by
      unfold declT
      rw [List.append_assoc, List.append_assoc]
      rfl
    rw [e]
    exact q
  | false =>
    refine q_ixL (d := .str []) (atI_ok 0 rfl rfl) ?_
    refine q_addS (by simp only [List.length_append, List.length_cons, List.length_nil]; omega) ?_
    (repeat (walk_at "vi.s0"))
    have e : p ++ [58, 32] ++ v ++ [] = declT p v false := by
      unfold declT
      rw [List.append_assoc, List.append_assoc]
      rfl
    rw [e]
    exact q
end
end Law
end
section
set_option maxHeartbeats 1000000
open PySem VI
namespace Law
/-- f stands for the value d, its lists in memory down to some depth -/
def SamG (m : Mem) : Nat → D → D → Prop
  | 0, f, d => f = d
  | k + 1, f, d => f = d ∨ ∃ es ds : List D, ((f = .tup es ∧ d = .tup ds) ∨ (f = .lst es ∧ d = .lst ds) ∨ ∃ c, f = .cell c ∧ m[c]? = some (.lst es) ∧ d = .lst ds) ∧ es.length = ds.length ∧ ∀ (i : Nat) (e x : D), es[i]? = some e → ds[i]? = some x → SamG m k e x
theorem samG_refl {m : Mem} : ∀ (k : Nat) (d : D), SamG m k d d
  | 0, _ => rfl
  | _ + 1, _ => .inl rfl
theorem samG_eq {m : Mem} {k : Nat} {f d : D} (h : SamG m k f d) (h1 : ∀ ds, d ≠ .lst ds) (h2 : ∀ ds, d ≠ .tup ds) : f = d := by
  cases k with
  | zero => exact h
  | succ k =>
    rcases h with h | ⟨es, ds, (⟨_, h⟩ | ⟨_, h⟩ | ⟨c, _, _, h⟩), _⟩
    · exact h
    · exact absurd h (h2 ds)
    · exact absurd h (h1 ds)
    · exact absurd h (h1 ds)
structure SeqAt (m : Mem) (f : D) (t : String) (ds : List D) : Prop where
  ty : tyN m f = some t
  len : ∀ {Q : D → Mem → Prop}, Q (.int ds.length) m → opQ (bLen m [f]) Q m
  ix : ∀ {i : Nat} {x : D}, ds[i]? = some x → ∃ k e, SamG m k e x ∧ ∀ {Q : D → Mem → Prop}, Q e m → opQ (oIx m f (.int i)) Q m
theorem seq_tup {m : Mem} {es ds : List D} {k : Nat} (hl : es.length = ds.length) (h : ∀ (i : Nat) (e x : D), es[i]? = some e → ds[i]? = some x → SamG m k e x) : SeqAt m (.tup es) "tuple" ds :=
  ⟨rfl, fun q => q_lenT (by rw [hl]; exact q), fun {i x} hx => by
    have hi : i < es.length := by rw [hl]; exact (List.getElem?_eq_some_iff.mp hx).1
    exact ⟨k, es[i], h i _ _ (List.getElem?_eq_getElem hi) hx, fun q => q_ixT (atI_ok _ rfl (List.getElem?_eq_getElem hi)) q⟩⟩
theorem seq_lst {m : Mem} {es ds : List D} {k : Nat} (hl : es.length = ds.length) (h : ∀ (i : Nat) (e x : D), es[i]? = some e → ds[i]? = some x → SamG m k e x) : SeqAt m (.lst es) "list" ds :=
  ⟨rfl, fun q => q_lenL (by rw [hl]; exact q), fun {i x} hx => by
    have hi : i < es.length := by rw [hl]; exact (List.getElem?_eq_some_iff.mp hx).1
    exact ⟨k, es[i], h i _ _ (List.getElem?_eq_getElem hi) hx, fun q => q_ixL (atI_ok _ rfl (List.getElem?_eq_getElem hi)) q⟩⟩
theorem seq_cell {m : Mem} {c : Nat} {es ds : List D} {k : Nat} (hc : m[c]? = some (.lst es)) (hl : es.length = ds.length) (h : ∀ (i : Nat) (e x : D), es[i]? = some e → ds[i]? = some x → SamG m k e x) : SeqAt m (.cell c) "list" ds :=
  ⟨by unfold tyN; dsimp only; rw [hc], fun q => q_lenC hc (by rw [hl]; exact q), fun {i x} hx => by
    have hi : i < es.length := by rw [hl]; exact (List.getElem?_eq_some_iff.mp hx).1
    exact ⟨k, es[i], h i _ _ (List.getElem?_eq_getElem hi) hx, fun q => q_ixC hc (atI_ok _ rfl (List.getElem?_eq_getElem hi)) q⟩⟩
theorem samG_self {m : Mem} {ds : List D} : ∀ (i : Nat) (e x : D), ds[i]? = some e → ds[i]? = some x → SamG m 0 e x := fun i e x h1 h2 => by
  rw [h1] at h2
  exact Option.some.inj h2
theorem samG_T {m : Mem} {k : Nat} {f : D} {ds : List D} (h : SamG m k f (.tup ds)) : SeqAt m f "tuple" ds := by
  cases k with
  | zero =>
    have e : f = .tup ds := h
    subst e
    exact seq_tup rfl samG_self
  | succ k =>
    rcases h with rfl | ⟨es, ds', (⟨rfl, h⟩ | ⟨_, h⟩ | ⟨c, _, _, h⟩), hl, ha⟩
    · exact seq_tup rfl samG_self
    · cases h
      exact seq_tup hl ha
    · cases h
    · cases h
theorem samG_L {m : Mem} {k : Nat} {f : D} {ds : List D} (h : SamG m k f (.lst ds)) : SeqAt m f "list" ds := by
  cases k with
  | zero =>
    have e : f = .lst ds := h
    subst e
    exact seq_lst rfl samG_self
  | succ k =>
    rcases h with rfl | ⟨es, ds', (⟨_, h⟩ | ⟨rfl, h⟩ | ⟨c, rfl, hc, h⟩), hl, ha⟩
    · exact seq_lst rfl samG_self
    · cases h
    · cases h
      exact seq_lst hl ha
    · cases h
      exact seq_cell hc hl ha
theorem sub_ll : (subT "list" "list" || subT "list" "tuple") = true := by decide
theorem sub_tt : (subT "tuple" "list" || subT "tuple" "tuple") = true := by decide
theorem sub_no : ∀ t ∈ ["NoneType", "int", "str", "bool"], (subT t "list" || subT t "tuple") = false := by decide
/-- data, truths too -/
def DOkB : Nat → D → Prop
  | 0, _ => False
  | n + 1, d => d = .non ∨ (∃ i, d = .int i) ∨ (∃ s, d = .str s) ∨ (∃ v, d = .bl v) ∨ ∃ ds, (d = .tup ds ∨ d = .lst ds) ∧ ds.length ≤ 100000 ∧ ∀ e ∈ ds, DOkB n e
theorem st_alikeG {m : Mem} : ∀ (n : Nat) (d found due : D) (k k' : Nat), DOkB n d → SamG m k found d → SamG m k' due d → W (recD g__law_alike n [found, due] m) fun v m' => v = .bl true ∧ m' = m
  | 0, _, _, _, _, _, h, _, _ => h.elim
  | n + 1, d, found, due, kk, kk', h, hs, hs' => by
    have hk := h
    show W (g__law_alike (recD g__law_alike n) _ _) _
    refine w_fn (ρ := [some found, some due, none]) rfl rfl ?_
    unfold b__law_alike
    rcases h with rfl | ⟨i, rfl⟩ | ⟨s, rfl⟩ | ⟨v, rfl⟩ | ⟨ds, hd, hl, he⟩
    · have hf : found = .non := samG_eq hs (fun ds h => nomatch h) (fun ds h => nomatch h)
      have hg : due = .non := samG_eq hs' (fun ds h => nomatch h) (fun ds h => nomatch h)
      subst hf
      subst hg
      (repeat (walk_at "vi.s0"))
      refine ⟨by decide, ?_⟩
      rw [sub_no "NoneType" (by decide)]
      (repeat (walk_at "vi.s0"))
      refine q_isi rfl (by decide) ?_
      (repeat (walk_at "vi.s0"))
      refine q_isi rfl (by decide) ?_
      (repeat (walk_at "vi.s0"))
      refine ifq_d (fun _ => ?_) (fun h => absurd rfl h)
      (repeat (walk_at "vi.s0"))
      refine q_isi rfl (by decide) ?_
      (repeat (walk_at "vi.s0"))
      refine q_isi rfl (by decide) ?_
      (repeat (walk_at "vi.s0"))
      refine ifq_d (fun _ => ?_) (fun h => absurd rfl h)
      (repeat (walk_at "vi.s0"))
      refine q_isi rfl (by decide) ?_
      (repeat (walk_at "vi.s0"))
      refine q_isi rfl (by decide) ?_
      (repeat (walk_at "vi.s0"))
      refine ifq_t ?_
      (repeat (walk_at "vi.s0"))
      refine q_eqSame (n := 1) (.inl rfl) (by decide) ?_
      (repeat (walk_at "vi.s0"))
      exact ⟨rfl, rfl⟩
    · have hf : found = .int i := samG_eq hs (fun ds h => nomatch h) (fun ds h => nomatch h)
      have hg : due = .int i := samG_eq hs' (fun ds h => nomatch h) (fun ds h => nomatch h)
      subst hf
      subst hg
      (repeat (walk_at "vi.s0"))
      refine ⟨by decide, ?_⟩
      rw [sub_no "int" (by decide)]
      (repeat (walk_at "vi.s0"))
      refine q_isi rfl (by decide) ?_
      (repeat (walk_at "vi.s0"))
      refine q_isi rfl (by decide) ?_
      (repeat (walk_at "vi.s0"))
      refine ifq_d (fun _ => ?_) (fun h => absurd rfl h)
      (repeat (walk_at "vi.s0"))
      refine q_isi rfl (by decide) ?_
      (repeat (walk_at "vi.s0"))
      refine q_isi rfl (by decide) ?_
      (repeat (walk_at "vi.s0"))
      refine ifq_d (fun _ => ?_) (fun h => absurd rfl h)
      (repeat (walk_at "vi.s0"))
      refine q_isi rfl (by decide) ?_
      (repeat (walk_at "vi.s0"))
      refine q_isi rfl (by decide) ?_
      (repeat (walk_at "vi.s0"))
      refine ifq_t ?_
      (repeat (walk_at "vi.s0"))
      exact ⟨by rw [decide_eq_true rfl], rfl⟩
    · have hf : found = .str s := samG_eq hs (fun ds h => nomatch h) (fun ds h => nomatch h)
      have hg : due = .str s := samG_eq hs' (fun ds h => nomatch h) (fun ds h => nomatch h)
      subst hf
      subst hg
      (repeat (walk_at "vi.s0"))
      refine ⟨by decide, ?_⟩
      rw [sub_no "str" (by decide)]
      (repeat (walk_at "vi.s0"))
      refine q_isi rfl (by decide) ?_
      (repeat (walk_at "vi.s0"))
      refine q_isi rfl (by decide) ?_
      (repeat (walk_at "vi.s0"))
      refine ifq_d (fun _ => ?_) (fun h => absurd rfl h)
      (repeat (walk_at "vi.s0"))
      refine q_isi rfl (by decide) ?_
      (repeat (walk_at "vi.s0"))
      refine q_isi rfl (by decide) ?_
      (repeat (walk_at "vi.s0"))
      refine ifq_d (fun _ => ?_) (fun h => absurd rfl h)
      (repeat (walk_at "vi.s0"))
      refine ifq_t ?_
      (repeat (walk_at "vi.s0"))
      exact ⟨by rw [decide_eq_true rfl], rfl⟩
    · have hf : found = .bl v := samG_eq hs (fun ds h => nomatch h) (fun ds h => nomatch h)
      have hg : due = .bl v := samG_eq hs' (fun ds h => nomatch h) (fun ds h => nomatch h)
      subst hf
      subst hg
      (repeat (walk_at "vi.s0"))
      refine ⟨by decide, ?_⟩
      rw [sub_no "bool" (by decide)]
      (repeat (walk_at "vi.s0"))
      refine ifq_d (fun _ => ?_) (fun h => absurd rfl h)
      (repeat (walk_at "vi.s0"))
      refine q_isi rfl (by decide) ?_
      (repeat (walk_at "vi.s0"))
      refine q_isi rfl (by decide) ?_
      (repeat (walk_at "vi.s0"))
      refine ifq_d (fun _ => ?_) (fun h => absurd rfl h)
      (repeat (walk_at "vi.s0"))
      refine q_isi rfl (by decide) ?_
      (repeat (walk_at "vi.s0"))
      refine q_isi rfl (by decide) ?_
      (repeat (walk_at "vi.s0"))
      refine ifq_t ?_
      (repeat (walk_at "vi.s0"))
      exact ⟨by rw [decide_eq_true rfl], rfl⟩
    · have main : ∀ (t : String), (subT t "list" || subT t "tuple") = true → SeqAt m found t ds → SeqAt m due t ds →
          W (bSeq (bIf (tV (eIsi2 (eVar 1) "list" "tuple")) (bSeq (bIf (tOr (tNot (tV (eIsi2 (eVar 0) "list" "tuple"))) (tV (eOp oNe (eBlt bIsi (aCons (eVar 0) (aCons (eC (.ty "list")) (aNil)))) (eBlt bIsi (aCons (eVar 1) (aCons (eC (.ty "list")) (aNil))))))) (bRet (eC (.bl false))) (bNil)) (bSeq (bIf (tV (eOp oNe (eBlt bLen (aCons (eVar 0) (aNil))) (eBlt bLen (aCons (eVar 1) (aNil))))) (bRet (eC (.bl false))) (bNil)) (bRet (eBlt bAll (aCons (eComp [2] (aRng1 (eBlt bLen (aCons (eVar 1) (aNil)))) (gName 2) (tYes) (eCall (recD g__law_alike n) (aCons (eOp oIx (eVar 0) (eVar 2)) (aCons (eOp oIx (eVar 1) (eVar 2)) (aNil))))) (aNil)))))) (bNil)) (bSeq (bIf (tOr (tV (eOp oNe (eBlt bIsi (aCons (eVar 0) (aCons (eC (.ty "bool")) (aNil)))) (eBlt bIsi (aCons (eVar 1) (aCons (eC (.ty "bool")) (aNil)))))) (tV (eOp oNe (eBlt bIsi (aCons (eVar 0) (aCons (eC (.ty "int")) (aNil)))) (eBlt bIsi (aCons (eVar 1) (aCons (eC (.ty "int")) (aNil))))))) (bRet (eC (.bl false))) (bNil)) (bRet (eAnd (eOp oEq (eBlt bIsi (aCons (eVar 0) (aCons (eC (.ty "str")) (aNil)))) (eBlt bIsi (aCons (eVar 1) (aCons (eC (.ty "str")) (aNil))))) (eOp oEq (eVar 0) (eVar 1))))) [some found, some due, none] m) (retQ fun v m' => v = .bl true ∧ m' = m) := by
        intro t ht A B
        (repeat (walk_at "vi.s0"))
        refine ⟨t, B.ty, by decide, ?_⟩
        rw [ht]
        refine blq (ifq_t ?_)
        (repeat (walk_at "vi.s0"))
        refine ⟨t, A.ty, by decide, ?_⟩
        rw [ht]
        refine blq (ifq_n (ifq_t ?_))
        (repeat (walk_at "vi.s0"))
        refine q_isi A.ty (by decide) ?_
        (repeat (walk_at "vi.s0"))
        refine q_isi B.ty (by decide) ?_
        (repeat (walk_at "vi.s0"))
        refine ifq_d (fun _ => ?_) (fun h => absurd rfl h)
        (repeat (walk_at "vi.s0"))
        refine A.len ?_
        (repeat (walk_at "vi.s0"))
        refine B.len ?_
        (repeat (walk_at "vi.s0"))
        refine ifq_d (fun _ => ?_) (fun h => absurd rfl h)
        (repeat (walk_at "vi.s0"))
        refine w_comp (fun i acc m' => m' = m ∧ acc = (List.replicate i true).map D.bl) ?_
        refine w_rng1 ?_
        (repeat (walk_at "vi.s0"))
        refine B.len ?_
        refine ⟨_, rfl, by omega, ?_⟩
        refine ⟨by rw [rngD_len]; omega, ⟨rfl, rfl⟩, ?_, ?_⟩
        · rintro i d acc m' hd ⟨rfl, rfl⟩
          have hi := (List.getElem?_eq_some_iff.mp hd).1
          rw [rngD_len] at hi
          have hdi : d = .int (i : Nat) := by
            have := rngD_get hd
            rw [this, Int.zero_add]
          subst hdi
          have hi' : i < ds.length := by omega
          have hget : ds[i]? = some ds[i] := List.getElem?_eq_getElem hi'
          refine w_name (w_yes (ifq_t ?_))
          refine w_call ?_
          (repeat (walk_at "vi.s0"))
          obtain ⟨k1, e1, hse, hx1⟩ := A.ix hget
          refine hx1 ?_
          (repeat (walk_at "vi.s0"))
          obtain ⟨k2, e2, hse2, hx2⟩ := B.ix hget
          refine hx2 ?_
          (repeat (walk_at "vi.s0"))
          refine (st_alikeG n ds[i] e1 e2 k1 k2 (he _ (List.getElem_mem hi')) hse hse2).mono ?_
          rintro v m1 ⟨rfl, rfl⟩
          exact ⟨rfl, by rw [List.replicate_succ', List.map_append]; rfl⟩
        · rintro acc m' ⟨rfl, rfl⟩
          (repeat (walk_at "vi.s0"))
          refine q_all rfl ?_
          have hall : ∀ k : Nat, (List.replicate k true).all id = true := fun k => List.all_eq_true.mpr fun x hx => by rw [List.eq_of_mem_replicate hx]; rfl
          rw [hall]
          (repeat (walk_at "vi.s0"))
          exact ⟨rfl, rfl⟩
      rcases hd with rfl | rfl
      · exact main "tuple" sub_tt (samG_T hs) (samG_T hs')
      · exact main "list" sub_ll (samG_L hs) (samG_L hs')
end Law
end
section
set_option maxHeartbeats 4000000
open PySem VI
namespace Law
/-! texts joined by a text -/
theorem joinL_len (b : List Nat) : ∀ ps : List (List Nat), (TL.joinL b ps).length ≤ (ps.map (·.length)).sum + ps.length * b.length
  | [] => Nat.zero_le _
  | [p] => by
    show p.length ≤ _
    rw [List.map_cons, List.sum_cons]
    omega
  | p :: q :: r => by
    have h := joinL_len b (q :: r)
    show (p ++ (b ++ TL.joinL b (q :: r))).length ≤ _
    rw [List.length_append, List.length_append, List.map_cons, List.sum_cons, List.length_cons, Nat.add_mul]
    omega
theorem joinL_mem {b : List Nat} {c : Nat} : ∀ {ps : List (List Nat)}, c ∈ TL.joinL b ps → c ∈ b ∨ ∃ p ∈ ps, c ∈ p
  | [], h => by cases h
  | [p], h => .inr ⟨p, List.mem_cons_self, h⟩
  | p :: q :: r, h => by
    rcases List.mem_append.mp h with g | g
    · exact .inr ⟨p, List.mem_cons_self, g⟩
    · rcases List.mem_append.mp g with g | g
      · exact .inl g
      · rcases joinL_mem g with g | ⟨x, hx, g⟩
        · exact .inl g
        · exact .inr ⟨x, List.mem_cons_of_mem _ hx, g⟩
theorem sum_le {k : Nat} : ∀ {l : List (List Nat)}, (∀ p ∈ l, p.length ≤ k) → (l.map (·.length)).sum ≤ k * l.length
  | [], _ => Nat.zero_le _
  | p :: r, h => by
    have h1 := h p List.mem_cons_self
    have h2 := sum_le (l := r) fun x hx => h x (List.mem_cons_of_mem _ hx)
    rw [List.map_cons, List.sum_cons, List.length_cons, Nat.mul_add]
    omega
theorem declD_ok {n : Nat} (x : List Nat × List Nat × Bool) : DOkB (n + 2) (declD x) := by
  unfold declD
  split
  · refine .inr (.inr (.inr (.inr ⟨_, .inl rfl, by simp, fun e he => ?_⟩)))
    simp only [List.mem_cons, List.not_mem_nil, or_false] at he
    rcases he with rfl | rfl | rfl
    · exact .inr (.inr (.inl ⟨_, rfl⟩))
    · exact .inr (.inr (.inl ⟨_, rfl⟩))
    · exact .inr (.inr (.inr (.inl ⟨_, rfl⟩)))
  · exact .inl rfl
theorem alike_is {m : Mem} {d f e : D} {k k' : Nat} {Q : D → Mem → Prop} (hd : DOkB 6 d) (h1 : SamG m k f d) (h2 : SamG m k' e d) (q : Q (.bl true) m) : W (f__law_alike [f, e] m) Q := by
  refine (st_alikeG 6 d f e k k' hd h1 h2).mono ?_
  rintro v m' ⟨rfl, rfl⟩
  exact q
theorem sam_cell {m : Mem} {c : Nat} {ds : List D} (h : m[c]? = some (.lst ds)) : SamG m 1 (.cell c) (.lst ds) := .inr ⟨ds, ds, .inr (.inr ⟨c, rfl, h, rfl⟩), rfl, samG_self⟩
theorem sam_tup2 {m : Mem} {k : Nat} {a b x y : D} (h1 : SamG m k a x) (h2 : SamG m k b y) : SamG m (k + 1) (.tup [a, b]) (.tup [x, y]) := .inr ⟨[a, b], [x, y], .inl ⟨rfl, rfl⟩, rfl, fun i e z h g => by
  match i, h, g with
  | 0, h, g => cases h; cases g; exact h1
  | 1, h, g => cases h; cases g; exact h2
  | i + 2, h, g => cases h⟩
theorem sam_lst1 {m : Mem} {k : Nat} {a x : D} (h1 : SamG m k a x) : SamG m (k + 1) (.lst [a]) (.lst [x]) := .inr ⟨[a], [x], .inr (.inl ⟨rfl, rfl⟩), rfl, fun i e z h g => by
  match i, h, g with
  | 0, h, g => cases h; cases g; exact h1
  | i + 1, h, g => cases h⟩
theorem allD_of : ∀ {xs : List (List Nat × List Nat × Bool)} {ps : List (List Nat)}, ps = xs.map (fun x => declT x.1 x.2.1 x.2.2) → (∀ x ∈ xs, isWord x.1 = true ∧ isValue x.2.1 = true ∧ endsL x.2.1 [32, 33] = false) → allD ps = some (xs.map declD)
  | [], ps, e, _ => by subst e; rfl
  | x :: r, ps, e, h => by
    subst e
    obtain ⟨h1, h2, h3⟩ := h x List.mem_cons_self
    show (match declW (declT x.1 x.2.1 x.2.2) with | none => none | some y => match allD (r.map fun x : List Nat × List Nat × Bool => declT x.1 x.2.1 x.2.2) with | none => none | some ds => some (declD y :: ds)) = _
    rw [declW_T h1 h2 h3, allD_of (xs := r) rfl fun y hy => h y (List.mem_cons_of_mem _ hy)]
    rfl
end Law
end
section
set_option maxHeartbeats 4000000
open PySem VI
namespace Law
/-! a declaration, as the law reads it -/
theorem atI_last {α : Type} {xs : List α} {v : α} (h : xs.getLast? = some v) : L2.atI xs (-1) = some v := by
  cases xs with
  | nil => cases h
  | cons x r =>
    rw [List.getLast?_eq_getElem?] at h
    unfold L2.atI L2.ixN
    rw [if_neg (by omega), if_pos (by rw [List.length_cons]; omega)]
    show (x :: r)[(-1 + ((x :: r).length : Int)).toNat]? = some v
    rw [← h]
    congr 1
    rw [List.length_cons]
    omega
theorem isValue_eq (s : List Nat) : isValue s = (!(decide (s = [])) && (!(decide (s.head? = some 32)) && (!(decide (s.getLast? = some 32)) && (s.filter fun c => decide (c ∈ barred)).isEmpty))) := by
  by_cases h0 : s = []
  · subst h0; rfl
  unfold isValue
  rw [decide_eq_true (p := s ≠ []) h0, decide_eq_false h0, Bool.true_and, Bool.not_false, Bool.true_and]
  have e1 : decide (stripL s [32] = s) = (!(decide (s.head? = some 32)) && !(decide (s.getLast? = some 32))) := by
    rw [Bool.eq_iff_iff, decide_eq_true_iff, strip_self h0, Bool.and_eq_true, Bool.not_eq_true', Bool.not_eq_true', decide_eq_false_iff_not, decide_eq_false_iff_not]
  have e2 : (barred.all fun c => !decide (c ∈ s)) = (s.filter fun c => decide (c ∈ barred)).isEmpty := by
    rw [Bool.eq_iff_iff, List.all_eq_true, List.isEmpty_iff, List.filter_eq_nil_iff]
    constructor
    · intro h c hc g
      have := h c (of_decide_eq_true g)
      rw [decide_eq_true hc] at this
      cases this
    · intro h c hc
      rw [decide_eq_false fun g => h c g (decide_eq_true hc)]
      rfl
  rw [e1, e2, Bool.and_assoc]
section
variable {m : Mem} {Q : D → Mem → Prop}
theorem q_find0 {s t : List Nat} (ht : t ≠ []) (hf : findL t s = none) (q : Q (.int (-1)) m) : opQ (sFind s m [.str t]) Q m := q_find ht (by rw [hf]; exact q)
theorem q_find1 {s t : List Nat} {i : Nat} (ht : t ≠ []) (hf : findL t s = some i) (q : Q (.int (i : Int)) m) : opQ (sFind s m [.str t]) Q m := q_find ht (by rw [hf]; exact q)
theorem st_l_is_word {s : List Nat} (hl : s.length ≤ 100000) (q : Q (.bl (isWord s)) m) : W (f__law_is_word [.str s] m) Q := by
  refine w_fn (ρ := [some (.str s), none, none, none]) rfl rfl ?_
  unfold b__law_is_word
  (repeat (walk_at "vi.s0"))
  refine w_comp (fun i acc m' => m' = m ∧ acc = ((s.take i).filter fun c => !decide (c ∈ lit6e3145)).map fun c => D.str [c]) ?_
  refine w_it ?_
  refine w_var rfl ?_
  refine it_str' ?_
  refine ⟨by rw [List.length_map]; omega, ⟨rfl, rfl⟩, ?_, ?_⟩
  · rintro i d acc m1 hd ⟨rfl, rfl⟩
    rw [List.getElem?_map] at hd
    obtain ⟨c, hc, rfl⟩ := Option.map_eq_some_iff.mp hd
    refine w_name ?_
    show W (tV (eOp oNotIn (eVar 3) (eOp oAdd (eVar 1) (eC (.str [45])))) [some (.str s), some (.str lit32d10c), none, some (.str [c])] m1) _
    refine w_tv ?_
    refine w_op (w_var rfl ?_)
    refine w_op (w_var rfl (w_c ?_))
    refine q_addS (by decide) ?_
    rw [show lit32d10c ++ [45] = lit6e3145 from rfl]
    refine q_ninC ?_
    refine blq ?_
    rw [List.take_add_one, hc, List.filter_append, List.map_append]
    by_cases h : c ∈ lit6e3145
    · rw [decide_eq_true h]
      refine ifq_f ?_
      refine ⟨rfl, ?_⟩
      have : ((some c).toList.filter fun c => !decide (c ∈ lit6e3145)) = [] := by
        rw [Option.toList_some, List.filter_cons, decide_eq_true h]; rfl
      rw [this]
      simp
    · rw [decide_eq_false h]
      refine ifq_t ?_
      refine w_var rfl ?_
      refine ⟨rfl, ?_⟩
      have : ((some c).toList.filter fun c => !decide (c ∈ lit6e3145)) = [c] := by
        rw [Option.toList_some, List.filter_cons, decide_eq_false h]; rfl
      rw [this]
      rfl
  · rintro acc m1 ⟨rfl, rfl⟩
    rw [List.length_map, List.take_length]
    have e3 : (((s.filter fun c => !decide (c ∈ lit6e3145)).map fun c => D.str [c]).isEmpty) = s.all fun c => decide (c ∈ lit6e3145) := by
      rw [List.isEmpty_map, Bool.eq_iff_iff, List.isEmpty_iff, List.filter_eq_nil_iff, List.all_eq_true]
      constructor
      · intro h c hc
        have := h c hc
        simpa using this
      · intro h c hc
        have := h c hc
        rw [this]
        simp
    unfold isWord at q
    (repeat (walk_at "vi.s0"))
    refine q_lenS (by omega) ?_
    refine q_lt ?_
    refine blq ?_
    refine ifq_d (fun h0 => ?_) (fun h0 => ?_)
    · (repeat (walk_at "vi.s0"))
      refine ifq_d (fun h13 => ?_) (fun h13 => ?_)
      · rw [decide_eq_true (p := 1 ≤ s.length) (by omega), decide_eq_true (p := s.length ≤ 12) (by omega), Bool.true_and, Bool.true_and] at q
        refine w_and ?_
        refine w_eqNil ?_
        refine w_var rfl ?_
        refine ⟨_, rfl, ?_⟩
        rw [e3]
        refine blq ?_
        cases hs : s with
        | nil => rw [hs] at h0; exact absurd h0 (by simp)
        | cons c r =>
          rw [← hs]
          have hc : s.head? = some c := by rw [hs]; rfl
          have hg : L2.atI s 0 = some c := atI_ok 0 rfl (by rw [hs]; rfl)
          rw [hc] at q
          refine ⟨fun ha => ?_, fun ha => ?_⟩
          · rw [ha, Bool.and_true] at q
            refine w_op (w_op (w_var rfl (w_c ?_)))
            refine q_ixS (by omega) hg ?_
            refine w_c ?_
            refine q_neS ?_
            have e4 : decide ([c] = ([45] : List Nat)) = decide (some c = some 45) := decide_eq_decide.mpr (by simp)
            rw [e4]
            exact q
          · rw [ha, Bool.and_false] at q
            exact q
      · rw [decide_eq_false (p := s.length ≤ 12) (by omega), Bool.and_false, Bool.false_and, Bool.false_and] at q
        exact q
    · rw [decide_eq_false (p := 1 ≤ s.length) (by omega), Bool.false_and, Bool.false_and, Bool.false_and] at q
      refine blq (ifq_f ?_)
      exact q
def lawD (s : List Nat) : D := match declW s with
  | none => .non
  | some x => .tup [.str x.1, .str x.2.1, .bl x.2.2]
theorem st_l_declaration_of {s : List Nat} (hl : s.length ≤ 100000) (q : Q (lawD s) m) : W (f__law_declaration_of [.str s] m) Q := by
  refine w_fn (ρ := [some (.str s), none, none, none, none, none]) rfl rfl ?_
  unfold b__law_declaration_of
  unfold lawD declW at q
  (repeat (walk_at "vi.s0"))
  cases hf : findL [58, 32] s with
  | none =>
    rw [hf] at q
    refine q_find0 (by simp) hf ?_
    (repeat (walk_at "vi.s0"))
    rw [decide_eq_true (show (-1 : Int) < 0 by omega)]
    (repeat (walk_at "vi.s0"))
    exact q
  | some i =>
    rw [hf] at q
    dsimp only at q
    refine q_find1 (by simp) hf ?_
    have l0 : (s.take i).length ≤ 100000 := by rw [List.length_take]; omega
    have l1 : (s.drop (i + 2)).length ≤ 100000 := by rw [List.length_drop]; omega
    have ct : cutD s none (some (i : Int)) = s.take i := by rw [VI.cut_to (by omega)]; congr 1
    have cd : cutD s (some ((i : Int) + 2)) none = s.drop (i + 2) := by rw [VI.cut_from (by omega)]; congr 1
    (repeat (walk_at "vi.s0"))
    rw [decide_eq_false (show ¬ ((i : Int) < 0) by omega)]
    (repeat (walk_at "vi.s0"))
    refine w_call ?_
    (repeat (walk_at "vi.s0"))
    refine q_slS (by omega) ?_
    rw [ct]
    (repeat (walk_at "vi.s0"))
    refine st_l_is_word l0 ?_
    refine blq ?_
    cases hw : isWord (s.take i) with
    | false =>
      rw [hw, Bool.false_and, if_neg (by simp)] at q
      (repeat (walk_at "vi.s0"))
      exact q
    | true =>
      rw [hw, Bool.true_and] at q
      (repeat (walk_at "vi.s0"))
      refine q_slS (by omega) ?_
      rw [cd]
      generalize s.drop (i + 2) = v at q l1 ⊢
      (repeat (walk_at "vi.s0"))
      refine q_ends ?_
      (repeat (walk_at "vi.s0"))
      -- behind the strength
      have rest : ∀ v' : List Nat, v'.length ≤ 100000 → v' = (if endsL v [32, 33] = true then v.take (v.length - 2) else v) → W (bSeq (bSet (gName 4) (eComp [5] (aIt (eVar 2)) (gName 5) (tV (eOp oIn (eVar 5) (eC (.str [59, 123, 125, 10])))) (eVar 5))) (bSeq (bIf (tOr (tV (eOp oEq (eVar 2) (eC (.str [])))) (tOr (tV (eOp oEq (eOp oIx (eVar 2) (eC (.int 0))) (eC (.str [32])))) (tOr (tV (eOp oEq (eOp oIx (eVar 2) (eUn oNeg (eC (.int 1)))) (eC (.str [32])))) (tV (eNeNil (eVar 4)))))) (bRet (eC .non)) (bNil)) (bRet (eTup (aCons (eSl (eVar 0) (pNo) (pSo (eVar 1))) (aCons (eVar 2) (aCons (eVar 3) (aNil)))))))
          [some (.str s), some (.int (i : Int)), some (.str v'), some (.bl (endsL v [32, 33])), none, none] m) (retQ Q) := by
        intro v' l2 ev
        rw [← ev] at q
        rw [isValue_eq] at q
        (repeat (walk_at "vi.s0"))
        refine w_comp (fun i acc m' => m' = m ∧ acc = ((v'.take i).filter fun c => decide (c ∈ barred)).map fun c => D.str [c]) ?_
        refine w_it ?_
        refine w_var rfl ?_
        refine it_str' ?_
        refine ⟨by rw [List.length_map]; omega, ⟨rfl, rfl⟩, ?_, ?_⟩
        · rintro j d acc m1 hd ⟨rfl, rfl⟩
          rw [List.getElem?_map] at hd
          obtain ⟨c, hc, rfl⟩ := Option.map_eq_some_iff.mp hd
          refine w_name ?_
          refine w_tv ?_
          refine w_op (w_var rfl (w_c ?_))
          refine q_inC ?_
          refine blq ?_
          rw [List.take_add_one, hc, List.filter_append, List.map_append]
          refine ifq_d (fun h => ?_) (fun h => ?_)
          · refine w_var rfl ?_
            refine ⟨rfl, ?_⟩
            have : ((some c).toList.filter fun c => decide (c ∈ barred)) = [c] := by
              rw [Option.toList_some, List.filter_cons, decide_eq_true (p := c ∈ barred) h]; rfl
            rw [this]
            rfl
          · refine ⟨rfl, ?_⟩
            have : ((some c).toList.filter fun c => decide (c ∈ barred)) = [] := by
              rw [Option.toList_some, List.filter_cons, decide_eq_false (p := c ∈ barred) h]; rfl
            rw [this]
            simp
        · rintro acc m1 ⟨rfl, rfl⟩
          rw [List.length_map, List.take_length]
          (repeat (walk_at "vi.s0"))
          refine ifq_d (fun h0 => ?_) (fun h0 => ?_)
          · rw [decide_eq_true h0, Bool.not_true, Bool.false_and, if_neg (by simp)] at q
            (repeat (walk_at "vi.s0"))
            exact q
          · rw [decide_eq_false h0, Bool.not_false, Bool.true_and] at q
            obtain ⟨c, hc⟩ : ∃ c, v'.head? = some c := by
              cases v' with
              | nil => exact absurd rfl h0
              | cons c r => exact ⟨c, rfl⟩
            obtain ⟨z, hz⟩ : ∃ z, v'.getLast? = some z := ⟨_, List.getLast?_eq_some_getLast h0⟩
            have hg : L2.atI v' 0 = some c := atI_ok 0 rfl (by rw [← List.head?_eq_getElem?]; exact hc)
            rw [hc, hz] at q
            (repeat (walk_at "vi.s0"))
            refine q_ixS (by omega) hg ?_
            (repeat (walk_at "vi.s0"))
            have e4 : decide ([c] = ([32] : List Nat)) = decide (some c = some 32) := decide_eq_decide.mpr (by simp)
            rw [e4]
            refine ifq_d (fun h1 => ?_) (fun h1 => ?_)
            · rw [decide_eq_true h1, Bool.not_true, Bool.false_and, if_neg (by simp)] at q
              (repeat (walk_at "vi.s0"))
              exact q
            · rw [decide_eq_false h1, Bool.not_false, Bool.true_and] at q
              (repeat (walk_at "vi.s0"))
              refine q_ixS (by omega) (atI_last hz) ?_
              (repeat (walk_at "vi.s0"))
              have e5 : decide ([z] = ([32] : List Nat)) = decide (some z = some 32) := decide_eq_decide.mpr (by simp)
              rw [e5]
              refine ifq_d (fun h2 => ?_) (fun h2 => ?_)
              · rw [decide_eq_true h2, Bool.not_true, Bool.false_and, if_neg (by simp)] at q
                (repeat (walk_at "vi.s0"))
                exact q
              · rw [decide_eq_false h2, Bool.not_false, Bool.true_and] at q
                (repeat (walk_at "vi.s0"))
                rw [List.isEmpty_map]
                cases hi : (v'.filter fun c => decide (c ∈ barred)).isEmpty with
                | true =>
                  rw [hi, if_pos rfl] at q
                  refine ifq_t ?_
                  (repeat (walk_at "vi.s0"))
                  refine q_slS (by omega) ?_
                  rw [ct]
                  (repeat (walk_at "vi.s0"))
                  exact q
                | false =>
                  rw [hi, if_neg (by simp)] at q
                  refine ifq_f ?_
                  (repeat (walk_at "vi.s0"))
                  exact q
      cases he : endsL v [32, 33] with
      | true =>
        rw [he] at rest
        refine ifq_t ?_
        refine w_set ?_
        refine w_sl ?_
        refine w_var rfl ?_
        refine w_pno ?_
        refine w_pso ?_
        refine w_op ?_
        refine w_blt (w_acons (w_var rfl (w_anil ?_)))
        refine q_lenS (by omega) ?_
        refine w_c ?_
        refine q_sub ?_
        refine ⟨_, rfl, ?_⟩
        refine q_slS (by omega) ?_
        have h2 : 2 ≤ v.length := by
          unfold endsL at he
          exact (of_decide_eq_true he).1
        rw [VI.cut_to (by omega), show ((v.length : Int) - 2).toNat = v.length - 2 by omega]
        refine w_name2 ?_
        refine seq_nx ?_
        exact rest _ (by rw [List.length_take]; omega) rfl
      | false =>
        rw [he] at rest
        refine ifq_f ?_
        refine w_bnil ?_
        refine seq_nx ?_
        exact rest v l1 rfl
end
end Law
end
section
set_option maxHeartbeats 4000000
open PySem VI
namespace Law
/-! None in a list of what was read -/
def lawP (s : List Nat) : PyData := match declW s with
  | none => .none
  | some x => .tuple [.str (VI.S x.1), .str (VI.S x.2.1), .bool x.2.2]
theorem lawD_pd (s : List Nat) : (lawD s).pd = some (lawP s) := by
  unfold lawD lawP
  cases declW s <;> rfl
theorem lawP_plain (s : List Nat) : (lawP s).plain = true ∧ (lawP s).depth ≤ 1 := by
  unfold lawP
  cases declW s with
  | none => exact ⟨rfl, by decide⟩
  | some x => exact ⟨rfl, by show max 0 (max 0 (max 0 0)) + 1 ≤ 1; decide⟩
theorem laws_pds : ∀ ps : List (List Nat), D.pds (ps.map lawD) = some (ps.map lawP)
  | [] => rfl
  | p :: r => by
    show (match (lawD p).pd with | some x => (match D.pds (r.map lawD) with | some xs => some (x :: xs) | none => none) | none => none) = _
    rw [lawD_pd, laws_pds r]
    rfl
theorem laws_plain : ∀ ps : List (List Nat), PyData.plainAll (ps.map lawP) = true ∧ PyData.depthAll (ps.map lawP) ≤ 1
  | [] => ⟨rfl, Nat.zero_le _⟩
  | p :: r => by
    obtain ⟨h1, h2⟩ := laws_plain r
    obtain ⟨g1, g2⟩ := lawP_plain p
    refine ⟨?_, ?_⟩
    · show ((lawP p).plain && PyData.plainAll (r.map lawP)) = true
      rw [h1, g1]; rfl
    · show max (lawP p).depth (PyData.depthAll (r.map lawP)) ≤ 1
      omega
theorem lawP_eqv (s : List Nat) : PyData.eqv (lawP s) .none = (declW s).isNone := by
  unfold lawP
  cases declW s <;> rfl
theorem inData_laws (ps : List (List Nat)) : inData .non (.lst (ps.map lawD)) = some (ps.any fun p => (declW p).isNone) := by
  unfold inData
  have h1 : (D.lst (ps.map lawD)).pd = some (.list (ps.map lawP)) := by unfold D.pd; rw [laws_pds]
  rw [h1, show D.non.pd = some .none from rfl]
  dsimp only
  obtain ⟨g1, g2⟩ := laws_plain ps
  have ok : okPD (.list (ps.map lawP)) = true := by
    unfold okPD
    rw [Bool.and_eq_true]
    refine ⟨g1, decide_eq_true ?_⟩
    show PyData.depthAll _ + 1 ≤ 64
    omega
  rw [ok, show okPD PyData.none = true from rfl, Bool.and_self, if_pos rfl]
  congr 1
  rw [List.any_map]
  congr 1
  funext p
  exact lawP_eqv p
theorem allD_some : ∀ {ps : List (List Nat)}, (∀ p ∈ ps, (declW p).isNone = false) → ∃ ds, allD ps = some ds
  | [], _ => ⟨[], rfl⟩
  | p :: r, h => by
    obtain ⟨ds, e⟩ := allD_some (ps := r) fun x hx => h x (List.mem_cons_of_mem _ hx)
    have hp := h p List.mem_cons_self
    cases hw : declW p with
    | none => rw [hw] at hp; cases hp
    | some x =>
      refine ⟨declD x :: ds, ?_⟩
      unfold allD
      rw [hw, e]
theorem allD_get : ∀ {ps : List (List Nat)} {ds : List D} {i : Nat} {p : List Nat}, allD ps = some ds → ps[i]? = some p → ∃ x, declW p = some x ∧ ds[i]? = some (declD x)
  | [], _, _, _, _, h => by cases h
  | q :: r, ds, i, p, h, g => by
    unfold allD at h
    cases hw : declW q with
    | none => rw [hw] at h; cases h
    | some x =>
      rw [hw] at h
      dsimp only at h
      cases hr : allD r with
      | none => rw [hr] at h; cases h
      | some es =>
        rw [hr] at h
        cases h
        cases i with
        | zero => cases g; exact ⟨x, hw, rfl⟩
        | succ i =>
          obtain ⟨y, h1, h2⟩ := allD_get (ps := r) (i := i) hr g
          exact ⟨y, h1, h2⟩
section
variable {m m0 : Mem} {b : Nat} {Q : D → Mem → Prop}
def dueD (s : List Nat) : D := match declsOf s with
  | none => .non
  | some ds => .lst ds
theorem st_l_declarations {s : List Nat} (hl : s.length ≤ 90000) (q : ∀ m', Fr m m' → Q (dueD s) m') : W (f__law_declarations_of [.str s] m) Q := by
  refine w_fn (ρ := [some (.str s), none, none]) rfl rfl ?_
  unfold b__law_declarations_of
  unfold dueD declsOf at q
  have hpl : ∀ p ∈ splitL s [59, 32], p.length ≤ 100000 := fun p hp => Nat.le_trans (splitL_part (by simp) hp) (by omega)
  have hpn := VI.splitL_len (s := s) (t := [59, 32]) (by simp)
  (repeat (walk_at "vi.s0"))
  refine w_comp (fun i acc m' => m' = m ∧ acc = ((splitL s [59, 32]).take i).map lawD) ?_
  refine w_it ?_
  (repeat (walk_at "vi.s0"))
  refine q_split ⟨by simp, by omega⟩ ?_
  refine it_lst' ?_
  generalize splitL s [59, 32] = ps at *
  refine ⟨by rw [List.length_map]; omega, ⟨rfl, rfl⟩, ?_, ?_⟩
  · rintro i d acc m1 hd ⟨rfl, rfl⟩
    rw [List.getElem?_map] at hd
    obtain ⟨p, hp, rfl⟩ := Option.map_eq_some_iff.mp hd
    refine w_name ?_
    refine w_yes (ifq_t ?_)
    refine w_call (w_acons (w_var rfl (w_anil ?_)))
    refine st_l_declaration_of (hpl p (List.mem_of_getElem? hp)) ?_
    refine ⟨rfl, ?_⟩
    rw [List.take_add_one, hp, List.map_append]
    rfl
  · rintro acc m1 ⟨rfl, rfl⟩
    rw [List.length_map, List.take_length]
    (repeat (walk_at "vi.s0"))
    refine q_inD (inData_laws ps) ?_
    refine blq ?_
    cases ha : ps.any fun p => (declW p).isNone with
    | true =>
      obtain ⟨p, hp, hw⟩ := List.any_eq_true.mp ha
      have e : allD ps = none := allD_none hp (by cases h : declW p with | none => rfl | some x => rw [h] at hw; cases hw)
      rw [e] at q
      refine ifq_t ?_
      refine ifq_t ?_
      (repeat (walk_at "vi.s0"))
      have q2 := q m1 (Fr.refl _)
      split at q2
      · exact q2
      · rename_i h; split at h <;> cases h
    | false =>
      refine ifq_f ?_
      (repeat (walk_at "vi.s0"))
      rw [List.length_map]
      refine ifq_d (fun h12 => ?_) (fun h12 => ?_)
      · rw [if_pos (by omega)] at q
        (repeat (walk_at "vi.s0"))
        exact q m1 (Fr.refl _)
      · rw [if_neg (by omega)] at q
        have hno : ∀ p ∈ ps, (declW p).isNone = false := fun p hp => by
          have := List.any_eq_false.mp ha p hp
          cases h : (declW p).isNone with
          | false => rfl
          | true => exact absurd h this
        obtain ⟨ds, hds⟩ := allD_some hno
        rw [hds] at q
        have hdl := allD_len hds
        (repeat (walk_at "vi.s0"))
        refine w_comp (fun i acc m' => Fr m1 m' ∧ acc = ds.take i) ?_
        refine w_it ?_
        refine w_var rfl ?_
        refine it_lst' ?_
        refine ⟨by rw [List.length_map]; omega, ⟨Fr.refl _, rfl⟩, ?_, ?_⟩
        · rintro i d acc m2 hd ⟨F, rfl⟩
          rw [List.getElem?_map] at hd
          obtain ⟨p, hp, rfl⟩ := Option.map_eq_some_iff.mp hd
          obtain ⟨x, hw, hx⟩ := allD_get hds hp
          have el : lawD p = .tup [.str x.1, .str x.2.1, .bl x.2.2] := by unfold lawD; rw [hw]
          rw [el]
          refine w_name ?_
          refine w_yes (ifq_t ?_)
          refine w_if ?_
          refine w_tv ?_
          refine w_op ?_
          refine w_op (w_var rfl (w_c ?_))
          refine q_ixT (d := .str x.2.1) (atI_ok 1 rfl rfl) ?_
          refine w_call (w_acons ?_)
          refine w_op (w_var rfl (w_c ?_))
          refine q_ixT (d := .str x.1) (atI_ok 0 rfl rfl) ?_
          refine w_anil ?_
          refine st_values fun m3 F3 => ?_
          refine q_inL (valuesOf x.1) rfl ?_
          rw [← hasP_mem]
          refine blq ?_
          have hlast : ∀ y : D, y = declD x → (Fr m1 m3 ∧ ds.take i ++ [y] = ds.take (i + 1)) := fun y hy => ⟨F.trans F3, by rw [hy, List.take_add_one, hx]; rfl⟩
          refine ⟨fun h => ?_, fun h => ?_⟩
          · refine w_var rfl ?_
            refine hlast _ ?_
            unfold declD
            rw [h, if_pos rfl]
          · refine w_c ?_
            refine hlast _ ?_
            unfold declD
            rw [h, if_neg (by simp)]
        · rintro acc m2 ⟨F, rfl⟩
          rw [List.length_map, ← hdl, List.take_length]
          exact q m2 F
/-! texts of looks, drawn and spoilt: of no great length -/
def spoilL : List (List Nat) := [[32], [44, 32], [32, 62, 32], [59, 32], [58, 32], [32, 123, 32], [32, 125], [32, 33], [58, 102, 105, 114, 115, 116], [91, 97, 93], [91, 97, 61, 48, 93], [42], lit43fe28, [35, 97]]
theorem spoilL_len : ∀ x ∈ spoilL, x.length ≤ 10 := by decide
theorem st_spoilt {s : List Nat} (hb : HasBag b m) (hl : s.length ≤ 80000) (q : ∀ t m', t.length ≤ s.length + 10 → HasBag b m' → Q (.str t) m') : W (f__law_spoilt [.cell b, .str s] m) Q := by
  refine w_fn (ρ := [some (.cell b), some (.str s), none, none, none, none, none]) rfl rfl ?_
  unfold b__law_spoilt
  have draw : ∀ {m : Mem} {Q : D → Mem → Prop} {many : Int}, HasBag b m → 1 ≤ many → many < 1267650600228229401496703205376 → (∀ r m', 0 ≤ r → r < many → HasBag b m' → Q (.int r) m') → W (f__law_draw [.cell b, .int many] m) Q := fun {m Q many} h h1 h2 q => st_draw h h1 h2 fun r m' r0 r1 E => q r m' r0 r1 E.bag
  (repeat (walk_at "vi.s0"))
  refine w_call ?_
  (repeat (walk_at "vi.s0"))
  refine draw hb (by omega) (by omega) fun way m1 w0 w1 hb1 => ?_
  (repeat (walk_at "vi.s0"))
  refine w_call ?_
  (repeat (walk_at "vi.s0"))
  refine q_lenS (by omega) ?_
  (repeat (walk_at "vi.s0"))
  refine draw hb1 (by omega) (by omega) fun at_ m2 a0 a1 hb2 => ?_
  (repeat (walk_at "vi.s0"))
  refine w_call ?_
  (repeat (walk_at "vi.s0"))
  refine q_lenS (by decide) ?_
  (repeat (walk_at "vi.s0"))
  have h45 : (lited6597.length : Int) = 44 := by decide
  refine draw hb2 (by omega) (by omega) fun r3 m3 r30 r31 hb3 => ?_
  refine q_pickS (by decide) r30 r31 fun c hc => ?_
  have lt : (s.take at_.toNat).length ≤ s.length := by rw [List.length_take]; omega
  have ld : ∀ k : Nat, (s.drop k).length ≤ s.length := fun k => by rw [List.length_drop]; omega
  have ltd : (s.take at_.toNat).length + (s.drop at_.toNat).length ≤ s.length := by rw [List.length_take, List.length_drop]; omega
  have ltd2 : ∀ k : Nat, at_.toNat ≤ k → (s.take at_.toNat).length + (s.drop k).length ≤ s.length := fun k hk => by rw [List.length_take, List.length_drop]; omega
  (repeat (walk_at "vi.s0"))
  refine ifq_d (fun h0 => ?_) (fun h0 => ?_)
  · (repeat (walk_at "vi.s0"))
    refine q_slS (by omega) ?_
    rw [VI.cut_to a0]
    (repeat (walk_at "vi.s0"))
    refine q_addS (by simp only [List.length_cons, List.length_nil]; omega) ?_
    (repeat (walk_at "vi.s0"))
    refine q_slS (by omega) ?_
    rw [VI.cut_from a0]
    refine q_addS (by rw [List.length_append]; simp only [List.length_cons, List.length_nil]; omega) ?_
    (repeat (walk_at "vi.s0"))
    exact q _ m3 (by rw [List.length_append, List.length_append]; simp only [List.length_cons, List.length_nil]; omega) hb3
  (repeat (walk_at "vi.s0"))
  refine ifq_d (fun h1 => ?_) (fun h1 => ?_)
  · (repeat (walk_at "vi.s0"))
    refine q_slS (by omega) ?_
    rw [VI.cut_to a0]
    (repeat (walk_at "vi.s0"))
    refine q_slS (by omega) ?_
    rw [VI.cut_from (by omega)]
    have := ltd2 (at_ + 1).toNat (by omega)
    refine q_addS (by omega) ?_
    (repeat (walk_at "vi.s0"))
    exact q _ m3 (by rw [List.length_append]; omega) hb3
  (repeat (walk_at "vi.s0"))
  refine ifq_d (fun h2 => ?_) (fun h2 => ?_)
  · (repeat (walk_at "vi.s0"))
    refine q_slS (by omega) ?_
    rw [VI.cut_to a0]
    (repeat (walk_at "vi.s0"))
    refine q_addS (by simp only [List.length_cons, List.length_nil]; omega) ?_
    (repeat (walk_at "vi.s0"))
    refine q_slS (by omega) ?_
    rw [VI.cut_from (by omega)]
    have := ltd2 (at_ + 1).toNat (by omega)
    refine q_addS (by rw [List.length_append]; simp only [List.length_cons, List.length_nil]; omega) ?_
    (repeat (walk_at "vi.s0"))
    exact q _ m3 (by rw [List.length_append, List.length_append]; simp only [List.length_cons, List.length_nil]; omega) hb3
  (repeat (walk_at "vi.s0"))
  refine ifq_d (fun h3 => ?_) (fun h3 => ?_)
  · (repeat (walk_at "vi.s0"))
    refine q_slS (by omega) ?_
    rw [VI.cut_to a0]
    (repeat (walk_at "vi.s0"))
    refine q_slS (by omega) ?_
    have em : cutD s (some at_) (some (at_ + 5)) = (s.drop at_.toNat).take 5 := by
      have h := VI.cut_mid (w := s) (i := at_.toNat) (j := at_.toNat + 5) (by omega)
      rw [show ((at_.toNat : Nat) : Int) = at_ by omega, show ((at_.toNat + 5 : Nat) : Int) = at_ + 5 by omega] at h
      rw [h]
      congr 1
      omega
    rw [em]
    have l5 : ((s.drop at_.toNat).take 5).length ≤ 5 := by rw [List.length_take]; omega
    refine q_addS (by omega) ?_
    (repeat (walk_at "vi.s0"))
    refine q_slS (by omega) ?_
    rw [VI.cut_from a0]
    refine q_addS (by rw [List.length_append]; omega) ?_
    (repeat (walk_at "vi.s0"))
    exact q _ m3 (by rw [List.length_append, List.length_append]; omega) hb3
  · (repeat (walk_at "vi.s0"))
    refine q_slS (by omega) ?_
    rw [VI.cut_to a0]
    (repeat (walk_at "vi.s0"))
    refine w_call ?_
    (repeat (walk_at "vi.s0"))
    refine draw hb3 (by omega) (by omega) fun r4 m4 r40 r41 hb4 => ?_
    refine q_pickW (ws := spoilL) rfl r40 (by show r4 < 14; exact r41) fun x hx => ?_
    have lx := spoilL_len x hx
    refine q_addS (by omega) ?_
    (repeat (walk_at "vi.s0"))
    refine q_slS (by omega) ?_
    rw [VI.cut_from (by omega)]
    have := ltd2 (at_ + way - 4).toNat (by omega)
    refine q_addS (by rw [List.length_append]; omega) ?_
    (repeat (walk_at "vi.s0"))
    exact q _ m4 (by rw [List.length_append, List.length_append]; omega) hb4
end
end Law
end
section
set_option maxHeartbeats 4000000
open PySem VI
namespace Law
def lookL : List (List Nat) := [[], lit32f331, [112, 97, 100, 58, 49], lit082620, lit676e45, [80, 97, 100, 58, 32, 49], [112, 97, 100, 58, 32], litbb6193]
theorem lookL_len : ∀ x ∈ lookL, x.length ≤ 20 := by decide
abbrev Dc : Type := List Nat × List Nat × Bool × Bool
def dcD (x : Dc) : D := .tup [.str x.1, .str x.2.1, .bl x.2.2.1, .bl x.2.2.2]
theorem dc_len {x : Dc} (h : DeclOk x.1 x.2.1 x.2.2.2) : (declT x.1 x.2.1 x.2.2.1).length ≤ 320 := by
  have h1 := h.c.len
  have h2 := h.len
  exact Nat.le_trans declT_len (by omega)
theorem join_le {ps : List (List Nat)} {k : Nat} (h : ∀ p ∈ ps, p.length ≤ 320) (hk : ps.length ≤ k) : (ps.map (·.length)).sum + ps.length * 2 ≤ 322 * k ∧ (TL.joinL [59, 32] ps).length ≤ 322 * k := by
  have h1 := sum_le h
  have h2 := joinL_len [59, 32] ps
  have hb : ([59, 32] : List Nat).length = 2 := rfl
  rw [hb] at h2
  have h3 : 322 * ps.length ≤ 322 * k := Nat.mul_le_mul_left _ hk
  omega
section
variable {m : Mem} {b k : Nat} {Q : D → Mem → Prop}
/-- what the rows of drawn declarations come to -/
theorem st_join_decl {xs : List Dc} {own : Nat} {it : AF} {ρ : VI.Env} (hx : ∀ x ∈ xs, DeclOk x.1 x.2.1 x.2.2.2) (hl : xs.length ≤ 20) (hit : W (it ρ m) fun ds m1 => ds = xs.map dcD ∧ m1 = m) (hv : ∀ x, ((wipeD ρ [own]).set own x)[own]? = some x) (q : ∀ t, t.length ≤ 6440 → Q (.str t) m) :
    W (eMS sJoin (eC (.str [59, 32])) (aCons (eComp [own] it (gName own) (tYes) (eCall f__law_declared (aCons (eVar own) (aNil)))) (aNil)) ρ m) Q := by
  (repeat (walk_at "vi.s0"))
  refine w_comp (fun i acc m' => m' = m ∧ acc = ((xs.take i).map fun x => declT x.1 x.2.1 x.2.2.1).map D.str) ?_
  refine hit.mono ?_
  rintro ds m1 ⟨rfl, rfl⟩
  refine ⟨by rw [List.length_map]; omega, ⟨rfl, rfl⟩, ?_, ?_⟩
  · rintro j dj acc m13 hdj ⟨rfl, rfl⟩
    rw [List.getElem?_map] at hdj
    obtain ⟨x, hxj, rfl⟩ := Option.map_eq_some_iff.mp hdj
    have hxo := hx x (List.mem_of_getElem? hxj)
    have hxc := hxo.c.len
    have hxp := hxo.len
    refine w_name ?_
    refine w_yes (ifq_t ?_)
    refine w_call (w_acons (w_var (hv _) (w_anil ?_)))
    refine st_declared (p := x.1) (v := x.2.1) (st := x.2.2.1) (y := [.bl x.2.2.2]) (by omega) (by omega) ?_
    refine ⟨rfl, ?_⟩
    rw [List.take_add_one, hxj, List.map_append, List.map_append]
    rfl
  · rintro acc m13 ⟨rfl, rfl⟩
    rw [List.length_map, List.take_length]
    (repeat (walk_at "vi.s0"))
    have hpl : ∀ p ∈ xs.map fun x => declT x.1 x.2.1 x.2.2.1, p.length ≤ 320 := by
      intro p hp
      obtain ⟨x, hxm, rfl⟩ := List.mem_map.mp hp
      exact dc_len (hx x hxm)
    obtain ⟨j1, j2⟩ := join_le (k := 20) hpl (by rw [List.length_map]; exact hl)
    refine q_joinL (ss := xs.map fun x => declT x.1 x.2.1 x.2.2.1) rfl (by show _ + _ * 2 ≤ _; omega) ?_
    rw [joinD_L]
    exact q _ (by omega)
theorem st_own_look (hb : HasBag b m) (hk : m[k]? = some (.dct [])) (hkb : k ≠ b) (q : ∀ t m', t.length ≤ 6440 → HasBag b m' → Q (.str t) m') : W (f__law_own_look [.cell b, .cell k] m) Q := by
  refine w_fn (ρ := [some (.cell b), some (.cell k), none, none, none, none, none]) rfl rfl ?_
  unfold b__law_own_look
  have hb0 : BagF b m m := ⟨hb, Nat.le_refl _, fun _ _ _ => rfl⟩
  have keep : ∀ {m' : Mem}, BagF b m m' → m'[k]? = some (.dct []) := fun h => h.fr.at hkb hk
  have setK : ∀ {m' : Mem} {o : O}, HasBag b m' → HasBag b (m'.set k o) := fun {m' o} h => by
    obtain ⟨o', h1, h2⟩ := h
    exact ⟨o', by rw [List.getElem?_set_ne hkb]; exact h1, h2⟩
  (repeat (walk_at "vi.s0"))
  refine w_call ?_
  (repeat (walk_at "vi.s0"))
  refine hb0.draw (by omega) (by omega) fun r1 m1 r10 r11 hb1 => ?_
  (repeat (walk_at "vi.s0"))
  refine ifq_d (fun h7 => ?_) (fun h7 => ?_)
  · (repeat (walk_at "vi.s0"))
    refine w_call ?_
    (repeat (walk_at "vi.s0"))
    refine hb1.draw (by omega) (by omega) fun r2 m2 r20 r21 hb2 => ?_
    refine q_pickW (ws := lookL) rfl r20 (by show r2 < 8; exact r21) fun x hx => ?_
    (repeat (walk_at "vi.s0"))
    refine ⟨_, _, rfl, keep hb2, by simp, ?_⟩
    (repeat (walk_at "vi.s0"))
    have := lookL_len x hx
    exact q x _ (by omega) (setK hb2.bag)
  · (repeat (walk_at "vi.s0"))
    refine w_comp (fun i acc m' => BagF b m m' ∧ ∃ xs : List Dc, acc = xs.map dcD ∧ xs.length = i ∧ ∀ x ∈ xs, DeclOk x.1 x.2.1 x.2.2.2) ?_
    refine w_rng1 ?_
    (repeat (walk_at "vi.s0"))
    refine w_call ?_
    (repeat (walk_at "vi.s0"))
    refine hb1.draw (by omega) (by omega) fun r2 m2 r20 r21 hb2 => ?_
    refine q_pickL r20 (by simp only [List.length_cons, List.length_nil]; omega) fun dn hdn => ?_
    have hn : ∃ n : Int, dn = .int n ∧ 1 ≤ n ∧ n ≤ 12 := by
      simp only [List.mem_cons, List.not_mem_nil, or_false] at hdn
      rcases hdn with rfl | rfl | rfl | rfl | rfl | rfl <;> exact ⟨_, rfl, by omega, by omega⟩
    obtain ⟨n, rfl, n0, n5⟩ := hn
    refine ⟨n, rfl, by omega, ?_⟩
    refine ⟨by rw [rngD_len]; omega, ⟨hb2, [], rfl, rfl, fun x hx => nomatch hx⟩, ?_, ?_⟩
    · rintro j dj acc m3 hdj ⟨hb3, xs, rfl, hxl, hxs⟩
      refine w_name ?_
      refine w_yes (ifq_t ?_)
      refine w_call (w_acons (w_var rfl (w_anil ?_)))
      refine st_declaration hb3 fun p w st2 ok m4 hdk hb4 => ?_
      refine ⟨hb4, xs ++ [(p, w, st2, ok)], by rw [List.map_append]; rfl, by rw [List.length_append, hxl]; rfl, fun x hx => ?_⟩
      rcases List.mem_append.mp hx with g | g
      · exact hxs x g
      · rw [List.mem_singleton.mp g]; exact hdk
    · rintro acc m3 ⟨hb3, xs, rfl, hxl, hxs⟩
      rw [rngD_len] at hxl
      refine w_name2 ?_
      refine seq_nx ?_
      refine w_seq ?_
      refine w_set ?_
      refine st_join_decl (xs := xs) hxs (by omega) ?_ (fun _ => rfl) fun t ht => ?_
      · refine w_it ?_
        refine w_var rfl ?_
        exact it_lst' ⟨rfl, rfl⟩
      (repeat (walk_at "vi.s0"))
      refine ⟨_, _, rfl, keep hb3, by simp, ?_⟩
      (repeat (walk_at "vi.s0"))
      exact q t _ ht (setK hb3.bag)
end
def pC : Cmp := ⟨[112], []⟩
theorem p_plain : PlainC pC := ⟨⟨.inr (.inr (by decide +kernel)), (fun t ht => nomatch ht), by decide, by decide⟩, by decide, by decide, by decide, by decide⟩
theorem allD_ok : ∀ {ps : List (List Nat)} {ds : List D}, allD ps = some ds → ∀ e ∈ ds, ∃ x, e = declD x
  | [], ds, h, e, he => by cases h; cases he
  | q :: r, ds, h, e, he => by
    unfold allD at h
    cases hw : declW q with
    | none => rw [hw] at h; cases h
    | some x =>
      rw [hw] at h
      dsimp only at h
      cases hr : allD r with
      | none => rw [hr] at h; cases h
      | some es =>
        rw [hr] at h
        cases h
        rcases List.mem_cons.mp he with rfl | he
        · exact ⟨x, rfl⟩
        · exact allD_ok hr e he
theorem decls_ok {s : List Nat} {ds : List D} (h : declsOf s = some ds) : ds.length ≤ 12 ∧ ∀ k : Nat, ∀ e ∈ ds, DOkB (k + 2) e := by
  unfold declsOf at h
  split at h
  · cases h
  · rename_i h12
    refine ⟨by rw [allD_len h]; omega, fun k e he => ?_⟩
    obtain ⟨x, rfl⟩ := allD_ok h e he
    exact declD_ok x
theorem lst_ok {ds : List D} {n : Nat} (h1 : ds.length ≤ 12) (h2 : ∀ e ∈ ds, DOkB n e) : DOkB (n + 1) (.lst ds) := .inr (.inr (.inr (.inr ⟨_, .inr rfl, by omega, h2⟩)))
theorem main_ok : ∀ ns : List Int, ns.length ≤ 63 → ∃ m', f_law [.lsk (ns.map D.int)] [] = some (.bl true, m') := by
  intro ns hl
  suffices h : W (f_law [.lsk (ns.map D.int)] []) (fun d _ => d = .bl true) by
    obtain ⟨d, m', e, rfl⟩ := h
    exact ⟨m', e⟩
  refine w_fn (ρ := [some (.lsk (ns.map D.int)), none, none, none, none, none, none, none, none]) rfl rfl ?_
  unfold b_law
  (repeat (walk_at "vi.s0"))
  refine w_call ?_
  (repeat (walk_at "vi.s0"))
  refine st_bag hl fun o ho => ?_
  (repeat (walk_at "vi.s0"))
  refine w_for (fun _ ρ m' => ∃ x2 x3 x4 x5 x6 x7 x8 : Option D, ρ = [some (.lsk (ns.map D.int)), some (.cell 0), x2, x3, x4, x5, x6, x7, x8] ∧ HasBag 0 m') ?_
  refine w_rng1 ?_
  (repeat (walk_at "vi.s0"))
  refine opq (d := .int (ns.map D.int).length) rfl ?_
  (repeat (walk_at "vi.s0"))
  refine bMin2_q ?_
  have hb : (if ((ns.map D.int).length : Int) < 10 then ((ns.map D.int).length : Int) else 10) ≤ 10 ∧ 0 ≤ (if ((ns.map D.int).length : Int) < 10 then ((ns.map D.int).length : Int) else 10) := by split <;> omega
  generalize (if ((ns.map D.int).length : Int) < 10 then ((ns.map D.int).length : Int) else 10) = n16 at hb ⊢
  (repeat (walk_at "vi.s0"))
  refine ⟨by omega, ⟨none, none, none, none, none, none, none, rfl, ⟨o, rfl, ho⟩⟩, ?_, ?_⟩
  · rintro i d ρ m1 hd ⟨x2, x3, x4, x5, x6, x7, x8, rfl, hb1⟩
    clear hd
    have h0m : 0 < m1.length := by
      obtain ⟨o, h, _⟩ := hb1
      exact (List.getElem?_eq_some_iff.mp h).1
    have draw : ∀ {m : Mem} {Q : D → Mem → Prop} {many : Int}, HasBag 0 m → 1 ≤ many → many < 1267650600228229401496703205376 → (∀ r m', 0 ≤ r → r < many → HasBag 0 m' → Q (.int r) m') → W (f__law_draw [.cell 0, .int many] m) Q := fun {m Q many} h h1 h2 q => st_draw h h1 h2 fun r m' r0 r1 E => q r m' r0 r1 E.bag
    (repeat (walk_at "vi.s0"))
    refine w_call ?_
    (repeat (walk_at "vi.s0"))
    refine w_dict0 ?_
    (repeat (walk_at "vi.s0"))
    have hk : (m1 ++ [O.dct []])[m1.length]? = some (.dct []) := by rw [List.getElem?_append_right (Nat.le_refl _), Nat.sub_self]; rfl
    refine st_own_look (Fr.bag (Fr.push m1 _) hb1) hk (by omega) fun t0 m2 ht0 hb2 => ?_
    (repeat (walk_at "vi.s0"))
    refine w_call ?_
    (repeat (walk_at "vi.s0"))
    refine draw hb2 (by omega) (by omega) fun r3 m3 r30 r31 hb3 => ?_
    (repeat (walk_at "vi.s0"))
    refine ifq_mid (fun ρ m' => ∃ (t : List Nat) (y4 : Option D), ρ = [some (.lsk (ns.map D.int)), some (.cell 0), some d, some (.str t), y4, x5, x6, x7, x8] ∧ t.length ≤ 6440 ∧ HasBag 0 m') ?_ ?_
    · refine ifq_d (fun _ => ?_) (fun _ => ?_)
      · refine w_set ?_
        (repeat (walk_at "vi.s0"))
        refine w_comp (fun i acc m' => HasBag 0 m' ∧ ∃ ts : List (List Nat), acc = ts.map D.str ∧ ts.length = i ∧ ∀ p ∈ ts, p.length ≤ 320) ?_
        refine w_rng1 ?_
        (repeat (walk_at "vi.s0"))
        refine w_call ?_
        (repeat (walk_at "vi.s0"))
        refine draw hb3 (by omega) (by omega) fun r4 m4 r40 r41 hb4 => ?_
        (repeat (walk_at "vi.s0"))
        refine ⟨by omega, ?_⟩
        refine ⟨by rw [rngD_len]; omega, ⟨hb4, [], rfl, rfl, fun x hx => nomatch hx⟩, ?_, ?_⟩
        · rintro j dj acc m5 hdj ⟨hb5, ts, rfl, htl, hts⟩
          refine w_name ?_
          refine w_yes (ifq_t ?_)
          refine w_call (w_acons ?_)
          refine w_call (w_acons (w_var rfl (w_anil ?_)))
          refine st_declaration (m0 := m5) ⟨hb5, Nat.le_refl _, fun _ _ _ => rfl⟩ fun p w st2 ok m6 hdk hb6 => ?_
          refine w_anil ?_
          have hxc := hdk.c.len
          have hxp := hdk.len
          refine st_declared (p := p) (v := w) (st := st2) (y := [.bl ok]) (by omega) (by omega) ?_
          refine ⟨hb6.bag, ts ++ [declT p w st2], by rw [List.map_append]; rfl, by rw [List.length_append, htl]; rfl, fun x hx => ?_⟩
          rcases List.mem_append.mp hx with g | g
          · exact hts x g
          · rw [List.mem_singleton.mp g]
            exact Nat.le_trans declT_len (by omega)
        · rintro acc m5 ⟨hb5, ts, rfl, htl, hts⟩
          rw [rngD_len] at htl
          obtain ⟨j1, j2⟩ := join_le (k := 20) hts (by omega)
          (repeat (walk_at "vi.s0"))
          refine q_joinL (ss := ts) rfl (by show _ + _ * 2 ≤ _; omega) ?_
          rw [joinD_L]
          (repeat (walk_at "vi.s0"))
          exact ⟨_, _, rfl, by omega, hb5⟩
      · (repeat (walk_at "vi.s0"))
        exact ⟨_, _, rfl, ht0, hb3⟩
    clear hb1 hb2 hb3 ht0 hk
    rintro ρ m3 ⟨t1, y4, rfl, ht1, hb3⟩
    refine w_seq ?_
    refine w_for (fun i ρ m' => ∃ (t : List Nat) (y4 : Option D), ρ = [some (.lsk (ns.map D.int)), some (.cell 0), some d, some (.str t), y4, x5, x6, x7, x8] ∧ t.length ≤ 6440 + 10 * i ∧ i ≤ 3 ∧ HasBag 0 m') ?_
    refine w_rng1 ?_
    (repeat (walk_at "vi.s0"))
    refine w_call ?_
    (repeat (walk_at "vi.s0"))
    refine draw hb3 (by omega) (by omega) fun r4 m4 r40 r41 hb4 => ?_
    refine q_pickL r40 (by simp only [List.length_cons, List.length_nil]; omega) fun dn hdn => ?_
    have hn : ∃ n : Int, dn = .int n ∧ 0 ≤ n ∧ n ≤ 3 := by
      simp only [List.mem_cons, List.not_mem_nil, or_false] at hdn
      rcases hdn with rfl | rfl | rfl | rfl | rfl | rfl <;> exact ⟨_, rfl, by omega, by omega⟩
    obtain ⟨n, rfl, n0, n5⟩ := hn
    refine ⟨n, rfl, by omega, ⟨t1, y4, rfl, by omega, by omega, hb4⟩, ?_, ?_⟩
    · rintro j dj ρ m5 hdj ⟨t, z4, rfl, htl, hj, hb5⟩
      have hjn := (List.getElem?_eq_some_iff.mp hdj).1
      rw [rngD_len] at hjn
      (repeat (walk_at "vi.s0"))
      refine w_call ?_
      (repeat (walk_at "vi.s0"))
      refine st_spoilt hb5 (by omega) fun t2 m6 ht2 hb6 => ?_
      (repeat (walk_at "vi.s0"))
      exact ⟨_, _, rfl, by omega, by omega, hb6⟩
    · rintro ρ m5 ⟨t, z4, rfl, htl, hj, hb5⟩
      have htl : t.length ≤ 7000 := by omega
      clear hb4 hb3
      refine seq_nx ?_
      (repeat (walk_at "vi.s0"))
      refine w_call ?_
      (repeat (walk_at "vi.s0"))
      refine st_l_declarations (by omega) fun m6 F6 => ?_
      have hb6 := F6.bag hb5
      (repeat (walk_at "vi.s0"))
      refine w_call ?_
      (repeat (walk_at "vi.s0"))
      refine st_own_rules (by omega) fun f m7 F7 hf hfm => ?_
      have hb7 := F7.bag hb6
      (repeat (walk_at "vi.s0"))
      refine w_call ?_
      (repeat (walk_at "vi.s0"))
      refine st_own_rules (by omega) fun g m8 F8 hg hgm => ?_
      have hb8 := F8.bag hb7
      have hfm8 := F8.at hfm
      have hfl := (List.getElem?_eq_some_iff.mp hfm).1
      have hgl := (List.getElem?_eq_some_iff.mp hgm).1
      have h6 : 0 < m6.length := by
        obtain ⟨o, h, _⟩ := hb6
        exact (List.getElem?_eq_some_iff.mp h).1
      have hok : ((declsOf t).getD []).length ≤ 12 ∧ ∀ k : Nat, ∀ e ∈ (declsOf t).getD [], DOkB (k + 2) e := by
        cases h : declsOf t with
        | none => exact ⟨by simp, fun k e he => nomatch he⟩
        | some ds => exact decls_ok h
      -- what is due, of a list
      have dueW : ∀ {ρ' : VI.Env} {m' : Mem} {K : D → Mem → Prop}, ρ'[5]? = some (some (dueD t)) → K (.lst ((declsOf t).getD [])) m' → W (eIf (tV (eOp oIs (eVar 5) (eC .non))) (eLst (aNil)) (eVar 5) ρ' m') K := by
        intro ρ' m' K h hk
        refine w_if ?_
        refine w_tv ?_
        refine w_op (w_var h (w_c ?_))
        unfold dueD at h ⊢
        cases hd : declsOf t with
        | none =>
          rw [hd] at hk h
          refine ⟨.bl true, rfl, blq (ifq_t ?_)⟩
          exact w_lst (w_anil hk)
        | some ds =>
          rw [hd] at hk h
          refine ⟨.bl false, rfl, blq (ifq_f ?_)⟩
          exact w_var h hk
      refine w_name7 ?_
      refine seq_nx ?_
      refine w_seq ?_
      refine w_bif ?_
      refine w_tnot ?_
      refine w_tv ?_
      refine w_call (w_acons (w_var rfl (w_acons ?_)))
      refine dueW rfl (w_anil ?_)
      refine alike_is (d := .lst ((declsOf t).getD [])) (k := 1) (k' := 0) (lst_ok hok.1 (hok.2 3)) (sam_cell hfm8) rfl ?_
      (repeat (walk_at "vi.s0"))
      refine ⟨_, _, rfl, hfm8, ?_⟩
      (repeat (walk_at "vi.s0"))
      refine ⟨_, hfm8, by omega, ?_⟩
      have hbs : HasBag 0 (m8.set f (O.lst (((declsOf t).getD []) ++ [.tup [.str [112, 97, 100], .str [49], .bl false]]))) := by
        obtain ⟨o', h1, h2⟩ := hb8
        exact ⟨o', by rw [List.getElem?_set_ne (by omega)]; exact h1, h2⟩
      have hgs : (m8.set f (O.lst (((declsOf t).getD []) ++ [.tup [.str [112, 97, 100], .str [49], .bl false]])))[g]? = some (.lst ((declsOf t).getD [])) := by
        rw [List.getElem?_set_ne (by omega)]; exact hgm
      generalize m8.set f (O.lst (((declsOf t).getD []) ++ [.tup [.str [112, 97, 100], .str [49], .bl false]])) = m9 at *
      refine seq_nx ?_
      refine w_seq ?_
      refine w_bif ?_
      refine w_tor ?_
      refine w_tnot ?_
      refine w_tv ?_
      refine w_call (w_acons (w_var rfl (w_acons ?_)))
      refine dueW rfl (w_anil ?_)
      refine alike_is (d := .lst ((declsOf t).getD [])) (k := 1) (k' := 0) (lst_ok hok.1 (hok.2 3)) (sam_cell hgs) rfl ?_
      refine blq ?_
      refine ifq_f ?_
      (repeat (walk_at "vi.s0"))
      refine w_call ?_
      (repeat (walk_at "vi.s0"))
      refine w_call ?_
      (repeat (walk_at "vi.s0"))
      refine st_own_rules (by omega) fun h m10 F10 hh hhm => ?_
      have hb10 := F10.bag hbs
      (repeat (walk_at "vi.s0"))
      refine alike_is (d := .lst ((declsOf t).getD [])) (k := 1) (k' := 1) (lst_ok hok.1 (hok.2 3)) (sam_cell hhm) (sam_cell (F10.at hgs)) ?_
      (repeat (walk_at "vi.s0"))
      refine ifq_d (fun h10 => ?_) (fun h10 => ?_)
      · refine w_bnil ?_
        exact turn_nx ⟨_, _, _, _, _, _, _, rfl, hb10⟩
      · (repeat (walk_at "vi.s0"))
        refine w_call ?_
        (repeat (walk_at "vi.s0"))
        refine q_addS (by simp only [List.length_cons, List.length_nil]; omega) ?_
        (repeat (walk_at "vi.s0"))
        refine q_addS (by rw [List.length_append]; simp only [List.length_cons, List.length_nil]; omega) ?_
        have er : [112, 32, 123, 32] ++ t ++ [32, 125] = rowOf pC t := by
          show _ = [112] ++ ([32, 123, 32] ++ (t ++ [32, 125]))
          rw [List.append_assoc]
          rfl
        rw [er]
        (repeat (walk_at "vi.s0"))
        have fin : ∀ {v : D} {m11 : Mem} {d2 : D} {kk : Nat}, HasBag 0 m11 → (∀ {K : D → Mem → Prop}, K d2 m11 → W (eIf (tV (eOp oIs (eVar 5) (eC .non))) (eC .non) (eTup (aCons (eLst (aCons (eC (.str [112])) (aNil))) (aCons (eVar 5) (aNil)))) [some (.lsk (ns.map D.int)), some (.cell 0), some d, some (.str t), z4, some (dueD t), some (.cell f), some (.cell g), some v] m11) K) → DOkB 5 d2 → SamG m11 kk v (.lst [d2]) →
            W (bIf (tNot (tV (eCall f__law_alike (aCons (eVar 8) (aCons (eLst (aCons (eIf (tV (eOp oIs (eVar 5) (eC .non))) (eC .non) (eTup (aCons (eLst (aCons (eC (.str [112])) (aNil))) (aCons (eVar 5) (aNil))))) (aNil))) (aNil)))))) (bRet (eC (.bl false))) (bNil) [some (.lsk (ns.map D.int)), some (.cell 0), some d, some (.str t), z4, some (dueD t), some (.cell f), some (.cell g), some v] m11) (turnQ (fun ρ m' => ∃ x2 x3 x4 x5 x6 x7 x8 : Option D, ρ = [some (.lsk (ns.map D.int)), some (.cell 0), x2, x3, x4, x5, x6, x7, x8] ∧ HasBag 0 m') (seqQ (bRet (eC (.bl true))) (retQ fun d _ => d = .bl true))) := by
          intro v m11 d2 kk hb11 hw hdk hs
          refine w_bif ?_
          refine w_tnot ?_
          refine w_tv ?_
          refine w_call (w_acons (w_var rfl (w_acons ?_)))
          refine w_lst (w_acons ?_)
          refine hw ?_
          refine w_anil (w_anil ?_)
          refine alike_is (d := .lst [d2]) (k := kk) (k' := 0) (.inr (.inr (.inr (.inr ⟨_, .inr rfl, by simp, fun e he => by rw [List.mem_singleton.mp he]; exact hdk⟩)))) hs rfl ?_
          (repeat (walk_at "vi.s0"))
          exact ⟨_, _, _, _, _, _, _, rfl, hb11⟩
        refine st_rules_one p_plain (by omega) h10 (fun hd m11 F11 => ?_) (fun ds hd f2 m11 F11 _ hfm2 => ?_)
        · refine w_name8 ?_
          refine seq_nx ?_
          refine fin (d2 := .non) (kk := 0) (F11.bag hb10) (fun {K} hk => ?_) (.inl rfl) rfl
          refine w_if ?_
          refine w_tv ?_
          refine w_op (w_var rfl (w_c ?_))
          unfold dueD
          rw [hd]
          refine ⟨.bl true, rfl, blq (ifq_t ?_)⟩
          exact w_c hk
        · refine w_name8 ?_
          refine seq_nx ?_
          have hk1 := decls_ok hd
          refine fin (d2 := .tup [.lst [.str [112]], .lst ds]) (kk := 3) (F11.bag hb10) (fun {K} hk => ?_) ?_ (sam_lst1 (sam_tup2 (samG_refl 1 _) (sam_cell hfm2)))
          · refine w_if ?_
            refine w_tv ?_
            refine w_op (w_var rfl (w_c ?_))
            have e5 : dueD t = .lst ds := by unfold dueD; rw [hd]
            rw [e5]
            refine ⟨.bl false, rfl, blq (ifq_f ?_)⟩
            refine w_tup (w_acons (w_lst (w_acons (w_c (w_anil (w_acons (w_var rfl (w_anil ?_))))))))
            exact hk
          · refine .inr (.inr (.inr (.inr ⟨_, .inl rfl, by simp, fun e he => ?_⟩)))
            simp only [List.mem_cons, List.not_mem_nil, or_false] at he
            rcases he with rfl | rfl
            · refine .inr (.inr (.inr (.inr ⟨_, .inr rfl, by simp, fun e he => ?_⟩)))
              rw [List.mem_singleton.mp he]
              exact .inr (.inr (.inl ⟨_, rfl⟩))
            · exact lst_ok hk1.1 (hk1.2 1)
  · rintro ρ m1 ⟨x2, x3, x4, x5, x6, x7, x8, rfl, hb1⟩
    (repeat (walk_at "vi.s0"))
    rfl
end Law
end
section
namespace Law
theorem main : ∀ ns : List Int, ns.length ≤ 63 → ∃ m', f_law [.lsk (ns.map VI.D.int)] [] = some (.bl true, m') := main_ok
end Law
end
section
set_option maxHeartbeats 4000000
open PySem PySem.Spec PyProof.Rows L2 VI
namespace Law
theorem top_of {w : World} {K : PySem.W.Frag} {h : Heap} {mg : Str → Option Value} (X : K.In h) (G : h.Ns mainGlobals mg)
    {f0 : Addr} {od0 an0 : Option Addr} {sl0 : Array (Option Value)} {oc0 kV0 dc0 pm0 cd0 ct0 : Value} (a0 : PySem.W.nsIn K mainGlobals "number_of" = some (some (.ref f0))) (l0 : K.lookup f0 = some ⟨oc0, od0, .func (PySem.W.fnOf "number_of" "number_of" (defArgs (topS 2)) (defBody (topS 2)) (defScope (topS 2)) .none kV0 dc0 pm0 an0 cd0 ct0), sl0⟩) (c0 : PySem.W.codeIn K cd0 "number_of" = true) (k0 : PySem.W.keepIn K (.ref f0) = true)
    {f1 : Addr} {od1 an1 : Option Addr} {sl1 : Array (Option Value)} {oc1 kV1 dc1 pm1 cd1 ct1 : Value} (a1 : PySem.W.nsIn K mainGlobals "has_value" = some (some (.ref f1))) (l1 : K.lookup f1 = some ⟨oc1, od1, .func (PySem.W.fnOf "has_value" "has_value" (defArgs (topS 8)) (defBody (topS 8)) (defScope (topS 8)) .none kV1 dc1 pm1 an1 cd1 ct1), sl1⟩) (c1 : PySem.W.codeIn K cd1 "has_value" = true) (k1 : PySem.W.keepIn K (.ref f1) = true)
    {f2 : Addr} {od2 an2 : Option Addr} {sl2 : Array (Option Value)} {oc2 kV2 dc2 pm2 cd2 ct2 : Value} (a2 : PySem.W.nsIn K mainGlobals "is_part" = some (some (.ref f2))) (l2 : K.lookup f2 = some ⟨oc2, od2, .func (PySem.W.fnOf "is_part" "is_part" (defArgs (topS 9)) (defBody (topS 9)) (defScope (topS 9)) .none kV2 dc2 pm2 an2 cd2 ct2), sl2⟩) (c2 : PySem.W.codeIn K cd2 "is_part" = true) (k2 : PySem.W.keepIn K (.ref f2) = true)
    {f3 : Addr} {od3 an3 : Option Addr} {sl3 : Array (Option Value)} {oc3 kV3 dc3 pm3 cd3 ct3 : Value} (a3 : PySem.W.nsIn K mainGlobals "is_between" = some (some (.ref f3))) (l3 : K.lookup f3 = some ⟨oc3, od3, .func (PySem.W.fnOf "is_between" "is_between" (defArgs (topS 10)) (defBody (topS 10)) (defScope (topS 10)) .none kV3 dc3 pm3 an3 cd3 ct3), sl3⟩) (c3 : PySem.W.codeIn K cd3 "is_between" = true) (k3 : PySem.W.keepIn K (.ref f3) = true)
    {f4 : Addr} {od4 an4 : Option Addr} {sl4 : Array (Option Value)} {oc4 kV4 dc4 pm4 cd4 ct4 : Value} (a4 : PySem.W.nsIn K mainGlobals "run_at" = some (some (.ref f4))) (l4 : K.lookup f4 = some ⟨oc4, od4, .func (PySem.W.fnOf "run_at" "run_at" (defArgs (topS 14)) (defBody (topS 14)) (defScope (topS 14)) .none kV4 dc4 pm4 an4 cd4 ct4), sl4⟩) (c4 : PySem.W.codeIn K cd4 "run_at" = true) (k4 : PySem.W.keepIn K (.ref f4) = true)
    {f5 : Addr} {od5 an5 : Option Addr} {sl5 : Array (Option Value)} {oc5 kV5 dc5 pm5 cd5 ct5 : Value} (a5 : PySem.W.nsIn K mainGlobals "word_at" = some (some (.ref f5))) (l5 : K.lookup f5 = some ⟨oc5, od5, .func (PySem.W.fnOf "word_at" "word_at" (defArgs (topS 15)) (defBody (topS 15)) (defScope (topS 15)) .none kV5 dc5 pm5 an5 cd5 ct5), sl5⟩) (c5 : PySem.W.codeIn K cd5 "word_at" = true) (k5 : PySem.W.keepIn K (.ref f5) = true)
    {f6 : Addr} {od6 an6 : Option Addr} {sl6 : Array (Option Value)} {oc6 kV6 dc6 pm6 cd6 ct6 : Value} (a6 : PySem.W.nsIn K mainGlobals "is_word" = some (some (.ref f6))) (l6 : K.lookup f6 = some ⟨oc6, od6, .func (PySem.W.fnOf "is_word" "is_word" (defArgs (topS 16)) (defBody (topS 16)) (defScope (topS 16)) .none kV6 dc6 pm6 an6 cd6 ct6), sl6⟩) (c6 : PySem.W.codeIn K cd6 "is_word" = true) (k6 : PySem.W.keepIn K (.ref f6) = true)
    {f7 : Addr} {od7 an7 : Option Addr} {sl7 : Array (Option Value)} {oc7 kV7 dc7 pm7 cd7 ct7 : Value} (a7 : PySem.W.nsIn K mainGlobals "compounds_of" = some (some (.ref f7))) (l7 : K.lookup f7 = some ⟨oc7, od7, .func (PySem.W.fnOf "compounds_of" "compounds_of" (defArgs (topS 21)) (defBody (topS 21)) (defScope (topS 21)) .none kV7 dc7 pm7 an7 cd7 ct7), sl7⟩) (c7 : PySem.W.codeIn K cd7 "compounds_of" = true) (k7 : PySem.W.keepIn K (.ref f7) = true)
    {f8 : Addr} {od8 an8 : Option Addr} {sl8 : Array (Option Value)} {oc8 kV8 dc8 pm8 cd8 ct8 : Value} (a8 : PySem.W.nsIn K mainGlobals "compound_of" = some (some (.ref f8))) (l8 : K.lookup f8 = some ⟨oc8, od8, .func (PySem.W.fnOf "compound_of" "compound_of" (defArgs (topS 22)) (defBody (topS 22)) (defScope (topS 22)) .none kV8 dc8 pm8 an8 cd8 ct8), sl8⟩) (c8 : PySem.W.codeIn K cd8 "compound_of" = true) (k8 : PySem.W.keepIn K (.ref f8) = true)
    {f9 : Addr} {od9 an9 : Option Addr} {sl9 : Array (Option Value)} {oc9 kV9 dc9 pm9 cd9 ct9 : Value} (a9 : PySem.W.nsIn K mainGlobals "test_at" = some (some (.ref f9))) (l9 : K.lookup f9 = some ⟨oc9, od9, .func (PySem.W.fnOf "test_at" "test_at" (defArgs (topS 23)) (defBody (topS 23)) (defScope (topS 23)) .none kV9 dc9 pm9 an9 cd9 ct9), sl9⟩) (c9 : PySem.W.codeIn K cd9 "test_at" = true) (k9 : PySem.W.keepIn K (.ref f9) = true)
    {f10 : Addr} {od10 an10 : Option Addr} {sl10 : Array (Option Value)} {oc10 kV10 dc10 pm10 cd10 ct10 : Value} (a10 : PySem.W.nsIn K mainGlobals "worth_test_at" = some (some (.ref f10))) (l10 : K.lookup f10 = some ⟨oc10, od10, .func (PySem.W.fnOf "worth_test_at" "worth_test_at" (defArgs (topS 24)) (defBody (topS 24)) (defScope (topS 24)) .none kV10 dc10 pm10 an10 cd10 ct10), sl10⟩) (c10 : PySem.W.codeIn K cd10 "worth_test_at" = true) (k10 : PySem.W.keepIn K (.ref f10) = true)
    {f11 : Addr} {od11 an11 : Option Addr} {sl11 : Array (Option Value)} {oc11 kV11 dc11 pm11 cd11 ct11 : Value} (a11 : PySem.W.nsIn K mainGlobals "rules_of" = some (some (.ref f11))) (l11 : K.lookup f11 = some ⟨oc11, od11, .func (PySem.W.fnOf "rules_of" "rules_of" (defArgs (topS 30)) (defBody (topS 30)) (defScope (topS 30)) .none kV11 dc11 pm11 an11 cd11 ct11), sl11⟩) (c11 : PySem.W.codeIn K cd11 "rules_of" = true) (k11 : PySem.W.keepIn K (.ref f11) = true)
    {f12 : Addr} {od12 an12 : Option Addr} {sl12 : Array (Option Value)} {oc12 kV12 dc12 pm12 cd12 ct12 : Value} (a12 : PySem.W.nsIn K mainGlobals "own_rules" = some (some (.ref f12))) (l12 : K.lookup f12 = some ⟨oc12, od12, .func (PySem.W.fnOf "own_rules" "own_rules" (defArgs (topS 31)) (defBody (topS 31)) (defScope (topS 31)) .none kV12 dc12 pm12 an12 cd12 ct12), sl12⟩) (c12 : PySem.W.codeIn K cd12 "own_rules" = true) (k12 : PySem.W.keepIn K (.ref f12) = true)
    {f13 : Addr} {od13 an13 : Option Addr} {sl13 : Array (Option Value)} {oc13 kV13 dc13 pm13 cd13 ct13 : Value} (a13 : PySem.W.nsIn K mainGlobals "own_declarations" = some (some (.ref f13))) (l13 : K.lookup f13 = some ⟨oc13, od13, .func (PySem.W.fnOf "own_declarations" "own_declarations" (defArgs (topS 32)) (defBody (topS 32)) (defScope (topS 32)) .none kV13 dc13 pm13 an13 cd13 ct13), sl13⟩) (c13 : PySem.W.codeIn K cd13 "own_declarations" = true) (k13 : PySem.W.keepIn K (.ref f13) = true)
    {f14 : Addr} {od14 an14 : Option Addr} {sl14 : Array (Option Value)} {oc14 kV14 dc14 pm14 cd14 ct14 : Value} (a14 : PySem.W.nsIn K mainGlobals "rule_of" = some (some (.ref f14))) (l14 : K.lookup f14 = some ⟨oc14, od14, .func (PySem.W.fnOf "rule_of" "rule_of" (defArgs (topS 33)) (defBody (topS 33)) (defScope (topS 33)) .none kV14 dc14 pm14 an14 cd14 ct14), sl14⟩) (c14 : PySem.W.codeIn K cd14 "rule_of" = true) (k14 : PySem.W.keepIn K (.ref f14) = true)
    {f15 : Addr} {od15 an15 : Option Addr} {sl15 : Array (Option Value)} {oc15 kV15 dc15 pm15 cd15 ct15 : Value} (a15 : PySem.W.nsIn K mainGlobals "selectors_of" = some (some (.ref f15))) (l15 : K.lookup f15 = some ⟨oc15, od15, .func (PySem.W.fnOf "selectors_of" "selectors_of" (defArgs (topS 34)) (defBody (topS 34)) (defScope (topS 34)) .none kV15 dc15 pm15 an15 cd15 ct15), sl15⟩) (c15 : PySem.W.codeIn K cd15 "selectors_of" = true) (k15 : PySem.W.keepIn K (.ref f15) = true)
    {f16 : Addr} {od16 an16 : Option Addr} {sl16 : Array (Option Value)} {oc16 kV16 dc16 pm16 cd16 ct16 : Value} (a16 : PySem.W.nsIn K mainGlobals "declarations_of" = some (some (.ref f16))) (l16 : K.lookup f16 = some ⟨oc16, od16, .func (PySem.W.fnOf "declarations_of" "declarations_of" (defArgs (topS 35)) (defBody (topS 35)) (defScope (topS 35)) .none kV16 dc16 pm16 an16 cd16 ct16), sl16⟩) (c16 : PySem.W.codeIn K cd16 "declarations_of" = true) (k16 : PySem.W.keepIn K (.ref f16) = true)
    {f17 : Addr} {od17 an17 : Option Addr} {sl17 : Array (Option Value)} {oc17 kV17 dc17 pm17 cd17 ct17 : Value} (a17 : PySem.W.nsIn K mainGlobals "declaration_of" = some (some (.ref f17))) (l17 : K.lookup f17 = some ⟨oc17, od17, .func (PySem.W.fnOf "declaration_of" "declaration_of" (defArgs (topS 36)) (defBody (topS 36)) (defScope (topS 36)) .none kV17 dc17 pm17 an17 cd17 ct17), sl17⟩) (c17 : PySem.W.codeIn K cd17 "declaration_of" = true) (k17 : PySem.W.keepIn K (.ref f17) = true)
    {f18 : Addr} {od18 an18 : Option Addr} {sl18 : Array (Option Value)} {oc18 kV18 dc18 pm18 cd18 ct18 : Value} (a18 : PySem.W.nsIn K mainGlobals "is_value" = some (some (.ref f18))) (l18 : K.lookup f18 = some ⟨oc18, od18, .func (PySem.W.fnOf "is_value" "is_value" (defArgs (topS 37)) (defBody (topS 37)) (defScope (topS 37)) .none kV18 dc18 pm18 an18 cd18 ct18), sl18⟩) (c18 : PySem.W.codeIn K cd18 "is_value" = true) (k18 : PySem.W.keepIn K (.ref f18) = true)
    {f19 : Addr} {od19 an19 : Option Addr} {sl19 : Array (Option Value)} {oc19 kV19 dc19 pm19 cd19 ct19 : Value} (a19 : PySem.W.nsIn K mainGlobals "_law_bag" = some (some (.ref f19))) (l19 : K.lookup f19 = some ⟨oc19, od19, .func (PySem.W.fnOf "_law_bag" "_law_bag" (defArgs (topS 39)) (defBody (topS 39)) (defScope (topS 39)) .none kV19 dc19 pm19 an19 cd19 ct19), sl19⟩) (c19 : PySem.W.codeIn K cd19 "_law_bag" = true) (k19 : PySem.W.keepIn K (.ref f19) = true)
    {f20 : Addr} {od20 an20 : Option Addr} {sl20 : Array (Option Value)} {oc20 kV20 dc20 pm20 cd20 ct20 : Value} (a20 : PySem.W.nsIn K mainGlobals "_law_stirred" = some (some (.ref f20))) (l20 : K.lookup f20 = some ⟨oc20, od20, .func (PySem.W.fnOf "_law_stirred" "_law_stirred" (defArgs (topS 40)) (defBody (topS 40)) (defScope (topS 40)) .none kV20 dc20 pm20 an20 cd20 ct20), sl20⟩) (c20 : PySem.W.codeIn K cd20 "_law_stirred" = true) (k20 : PySem.W.keepIn K (.ref f20) = true)
    {f21 : Addr} {od21 an21 : Option Addr} {sl21 : Array (Option Value)} {oc21 kV21 dc21 pm21 cd21 ct21 : Value} (a21 : PySem.W.nsIn K mainGlobals "_law_draw" = some (some (.ref f21))) (l21 : K.lookup f21 = some ⟨oc21, od21, .func (PySem.W.fnOf "_law_draw" "_law_draw" (defArgs (topS 41)) (defBody (topS 41)) (defScope (topS 41)) .none kV21 dc21 pm21 an21 cd21 ct21), sl21⟩) (c21 : PySem.W.codeIn K cd21 "_law_draw" = true) (k21 : PySem.W.keepIn K (.ref f21) = true)
    {f22 : Addr} {od22 an22 : Option Addr} {sl22 : Array (Option Value)} {oc22 kV22 dc22 pm22 cd22 ct22 : Value} (a22 : PySem.W.nsIn K mainGlobals "_law_alike" = some (some (.ref f22))) (l22 : K.lookup f22 = some ⟨oc22, od22, .func (PySem.W.fnOf "_law_alike" "_law_alike" (defArgs (topS 42)) (defBody (topS 42)) (defScope (topS 42)) .none kV22 dc22 pm22 an22 cd22 ct22), sl22⟩) (c22 : PySem.W.codeIn K cd22 "_law_alike" = true) (k22 : PySem.W.keepIn K (.ref f22) = true)
    {f23 : Addr} {od23 an23 : Option Addr} {sl23 : Array (Option Value)} {oc23 kV23 dc23 pm23 cd23 ct23 : Value} (a23 : PySem.W.nsIn K mainGlobals "_law_bounds" = some (some (.ref f23))) (l23 : K.lookup f23 = some ⟨oc23, od23, .func (PySem.W.fnOf "_law_bounds" "_law_bounds" (defArgs (topS 43)) (defBody (topS 43)) (defScope (topS 43)) .none kV23 dc23 pm23 an23 cd23 ct23), sl23⟩) (c23 : PySem.W.codeIn K cd23 "_law_bounds" = true) (k23 : PySem.W.keepIn K (.ref f23) = true)
    {f24 : Addr} {od24 an24 : Option Addr} {sl24 : Array (Option Value)} {oc24 kV24 dc24 pm24 cd24 ct24 : Value} (a24 : PySem.W.nsIn K mainGlobals "_law_props" = some (some (.ref f24))) (l24 : K.lookup f24 = some ⟨oc24, od24, .func (PySem.W.fnOf "_law_props" "_law_props" (defArgs (topS 44)) (defBody (topS 44)) (defScope (topS 44)) .none kV24 dc24 pm24 an24 cd24 ct24), sl24⟩) (c24 : PySem.W.codeIn K cd24 "_law_props" = true) (k24 : PySem.W.keepIn K (.ref f24) = true)
    {f25 : Addr} {od25 an25 : Option Addr} {sl25 : Array (Option Value)} {oc25 kV25 dc25 pm25 cd25 ct25 : Value} (a25 : PySem.W.nsIn K mainGlobals "_law_choices" = some (some (.ref f25))) (l25 : K.lookup f25 = some ⟨oc25, od25, .func (PySem.W.fnOf "_law_choices" "_law_choices" (defArgs (topS 45)) (defBody (topS 45)) (defScope (topS 45)) .none kV25 dc25 pm25 an25 cd25 ct25), sl25⟩) (c25 : PySem.W.codeIn K cd25 "_law_choices" = true) (k25 : PySem.W.keepIn K (.ref f25) = true)
    {f26 : Addr} {od26 an26 : Option Addr} {sl26 : Array (Option Value)} {oc26 kV26 dc26 pm26 cd26 ct26 : Value} (a26 : PySem.W.nsIn K mainGlobals "_law_value" = some (some (.ref f26))) (l26 : K.lookup f26 = some ⟨oc26, od26, .func (PySem.W.fnOf "_law_value" "_law_value" (defArgs (topS 46)) (defBody (topS 46)) (defScope (topS 46)) .none kV26 dc26 pm26 an26 cd26 ct26), sl26⟩) (c26 : PySem.W.codeIn K cd26 "_law_value" = true) (k26 : PySem.W.keepIn K (.ref f26) = true)
    {f27 : Addr} {od27 an27 : Option Addr} {sl27 : Array (Option Value)} {oc27 kV27 dc27 pm27 cd27 ct27 : Value} (a27 : PySem.W.nsIn K mainGlobals "_law_no_value" = some (some (.ref f27))) (l27 : K.lookup f27 = some ⟨oc27, od27, .func (PySem.W.fnOf "_law_no_value" "_law_no_value" (defArgs (topS 47)) (defBody (topS 47)) (defScope (topS 47)) .none kV27 dc27 pm27 an27 cd27 ct27), sl27⟩) (c27 : PySem.W.codeIn K cd27 "_law_no_value" = true) (k27 : PySem.W.keepIn K (.ref f27) = true)
    {f28 : Addr} {od28 an28 : Option Addr} {sl28 : Array (Option Value)} {oc28 kV28 dc28 pm28 cd28 ct28 : Value} (a28 : PySem.W.nsIn K mainGlobals "_law_declaration" = some (some (.ref f28))) (l28 : K.lookup f28 = some ⟨oc28, od28, .func (PySem.W.fnOf "_law_declaration" "_law_declaration" (defArgs (topS 48)) (defBody (topS 48)) (defScope (topS 48)) .none kV28 dc28 pm28 an28 cd28 ct28), sl28⟩) (c28 : PySem.W.codeIn K cd28 "_law_declaration" = true) (k28 : PySem.W.keepIn K (.ref f28) = true)
    {f29 : Addr} {od29 an29 : Option Addr} {sl29 : Array (Option Value)} {oc29 kV29 dc29 pm29 cd29 ct29 : Value} (a29 : PySem.W.nsIn K mainGlobals "_law_declared" = some (some (.ref f29))) (l29 : K.lookup f29 = some ⟨oc29, od29, .func (PySem.W.fnOf "_law_declared" "_law_declared" (defArgs (topS 49)) (defBody (topS 49)) (defScope (topS 49)) .none kV29 dc29 pm29 an29 cd29 ct29), sl29⟩) (c29 : PySem.W.codeIn K cd29 "_law_declared" = true) (k29 : PySem.W.keepIn K (.ref f29) = true)
    {f30 : Addr} {od30 an30 : Option Addr} {sl30 : Array (Option Value)} {oc30 kV30 dc30 pm30 cd30 ct30 : Value} (a30 : PySem.W.nsIn K mainGlobals "_law_own_look" = some (some (.ref f30))) (l30 : K.lookup f30 = some ⟨oc30, od30, .func (PySem.W.fnOf "_law_own_look" "_law_own_look" (defArgs (topS 50)) (defBody (topS 50)) (defScope (topS 50)) .none kV30 dc30 pm30 an30 cd30 ct30), sl30⟩) (c30 : PySem.W.codeIn K cd30 "_law_own_look" = true) (k30 : PySem.W.keepIn K (.ref f30) = true)
    {f31 : Addr} {od31 an31 : Option Addr} {sl31 : Array (Option Value)} {oc31 kV31 dc31 pm31 cd31 ct31 : Value} (a31 : PySem.W.nsIn K mainGlobals "_law_is_word" = some (some (.ref f31))) (l31 : K.lookup f31 = some ⟨oc31, od31, .func (PySem.W.fnOf "_law_is_word" "_law_is_word" (defArgs (topS 51)) (defBody (topS 51)) (defScope (topS 51)) .none kV31 dc31 pm31 an31 cd31 ct31), sl31⟩) (c31 : PySem.W.codeIn K cd31 "_law_is_word" = true) (k31 : PySem.W.keepIn K (.ref f31) = true)
    {f32 : Addr} {od32 an32 : Option Addr} {sl32 : Array (Option Value)} {oc32 kV32 dc32 pm32 cd32 ct32 : Value} (a32 : PySem.W.nsIn K mainGlobals "_law_values" = some (some (.ref f32))) (l32 : K.lookup f32 = some ⟨oc32, od32, .func (PySem.W.fnOf "_law_values" "_law_values" (defArgs (topS 52)) (defBody (topS 52)) (defScope (topS 52)) .none kV32 dc32 pm32 an32 cd32 ct32), sl32⟩) (c32 : PySem.W.codeIn K cd32 "_law_values" = true) (k32 : PySem.W.keepIn K (.ref f32) = true)
    {f33 : Addr} {od33 an33 : Option Addr} {sl33 : Array (Option Value)} {oc33 kV33 dc33 pm33 cd33 ct33 : Value} (a33 : PySem.W.nsIn K mainGlobals "_law_declaration_of" = some (some (.ref f33))) (l33 : K.lookup f33 = some ⟨oc33, od33, .func (PySem.W.fnOf "_law_declaration_of" "_law_declaration_of" (defArgs (topS 53)) (defBody (topS 53)) (defScope (topS 53)) .none kV33 dc33 pm33 an33 cd33 ct33), sl33⟩) (c33 : PySem.W.codeIn K cd33 "_law_declaration_of" = true) (k33 : PySem.W.keepIn K (.ref f33) = true)
    {f34 : Addr} {od34 an34 : Option Addr} {sl34 : Array (Option Value)} {oc34 kV34 dc34 pm34 cd34 ct34 : Value} (a34 : PySem.W.nsIn K mainGlobals "_law_declarations_of" = some (some (.ref f34))) (l34 : K.lookup f34 = some ⟨oc34, od34, .func (PySem.W.fnOf "_law_declarations_of" "_law_declarations_of" (defArgs (topS 54)) (defBody (topS 54)) (defScope (topS 54)) .none kV34 dc34 pm34 an34 cd34 ct34), sl34⟩) (c34 : PySem.W.codeIn K cd34 "_law_declarations_of" = true) (k34 : PySem.W.keepIn K (.ref f34) = true)
    {f35 : Addr} {od35 an35 : Option Addr} {sl35 : Array (Option Value)} {oc35 kV35 dc35 pm35 cd35 ct35 : Value} (a35 : PySem.W.nsIn K mainGlobals "_law_spoilt" = some (some (.ref f35))) (l35 : K.lookup f35 = some ⟨oc35, od35, .func (PySem.W.fnOf "_law_spoilt" "_law_spoilt" (defArgs (topS 55)) (defBody (topS 55)) (defScope (topS 55)) .none kV35 dc35 pm35 an35 cd35 ct35), sl35⟩) (c35 : PySem.W.codeIn K cd35 "_law_spoilt" = true) (k35 : PySem.W.keepIn K (.ref f35) = true)
    {f36 : Addr} {od36 an36 : Option Addr} {sl36 : Array (Option Value)} {oc36 kV36 dc36 pm36 cd36 ct36 : Value} (a36 : PySem.W.nsIn K mainGlobals "law" = some (some (.ref f36))) (l36 : K.lookup f36 = some ⟨oc36, od36, .func (PySem.W.fnOf "law" "law" (defArgs (topS 56)) (defBody (topS 56)) (defScope (topS 56)) .none kV36 dc36 pm36 an36 cd36 ct36), sl36⟩) (c36 : PySem.W.codeIn K cd36 "law" = true) (k36 : PySem.W.keepIn K (.ref f36) = true)
    (z_abs : PySem.W.nsIn K mainGlobals "abs" = some none)
    (z_all : PySem.W.nsIn K mainGlobals "all" = some none)
    (z_bool : PySem.W.nsIn K mainGlobals "bool" = some none)
    (z_enumerate : PySem.W.nsIn K mainGlobals "enumerate" = some none)
    (z_int : PySem.W.nsIn K mainGlobals "int" = some none)
    (z_isinstance : PySem.W.nsIn K mainGlobals "isinstance" = some none)
    (z_len : PySem.W.nsIn K mainGlobals "len" = some none)
    (z_list : PySem.W.nsIn K mainGlobals "list" = some none)
    (z_max : PySem.W.nsIn K mainGlobals "max" = some none)
    (z_min : PySem.W.nsIn K mainGlobals "min" = some none)
    (z_range : PySem.W.nsIn K mainGlobals "range" = some none)
    (z_str : PySem.W.nsIn K mainGlobals "str" = some none)
    (z_tuple : PySem.W.nsIn K mainGlobals "tuple" = some none)
    {t1 : Tok}
    (e_FIGURES : PySem.W.nsIn K mainGlobals "FIGURES" = some (some (.str "0123456789" t1)))
    {p2 : Addr} {es2 : Array DictEntry} {n2 : Nat}
    (e_WORDS : PySem.W.nsIn K mainGlobals "WORDS" = some (some (.ref p2)))
    (w2 : K.lookup p2 = some ⟨.type "dict", none, .dict es2 n2, #[]⟩)
    (kk2 : PySem.W.KeysLit w.params es2.toList)
    (lo2 : (p2 == sysModules) = false)
    (nm2 : es2.toList.map VI.nameOf = (["align", "back", "color", "display", "hide", "width"] : List Str).map some)
    {p3 : Addr} {dd3 : Option Addr} {n3 : Nat} {ts3 : Array (Option Value)}
    {t4 : Tok}
    {t5 : Tok}
    {t6 : Tok}
    (w3 : K.lookup p3 = some ⟨.type "tuple", dd3, .seq #[(.str "left" t4), (.str "center" t5), (.str "right" t6)] n3, ts3⟩)
    (vv2_0 : PySem.W.nsIn K p2 "align" = some (some (.ref p3)))
    {p7 : Addr} {dd7 : Option Addr} {n7 : Nat} {ts7 : Array (Option Value)}
    {t8 : Tok}
    {t9 : Tok}
    {t10 : Tok}
    {t11 : Tok}
    {t12 : Tok}
    (w7 : K.lookup p7 = some ⟨.type "tuple", dd7, .seq #[(.str "clear" t8), (.str "black" t9), (.str "red" t10), (.str "green" t11), (.str "blue" t12)] n7, ts7⟩)
    (vv2_1 : PySem.W.nsIn K p2 "back" = some (some (.ref p7)))
    {p13 : Addr} {dd13 : Option Addr} {n13 : Nat} {ts13 : Array (Option Value)}
    {t14 : Tok}
    {t15 : Tok}
    {t16 : Tok}
    {t17 : Tok}
    (w13 : K.lookup p13 = some ⟨.type "tuple", dd13, .seq #[(.str "black" t14), (.str "red" t15), (.str "green" t16), (.str "blue" t17)] n13, ts13⟩)
    (vv2_2 : PySem.W.nsIn K p2 "color" = some (some (.ref p13)))
    {p18 : Addr} {dd18 : Option Addr} {n18 : Nat} {ts18 : Array (Option Value)}
    {t19 : Tok}
    {t20 : Tok}
    {t21 : Tok}
    (w18 : K.lookup p18 = some ⟨.type "tuple", dd18, .seq #[(.str "block" t19), (.str "inline" t20), (.str "none" t21)] n18, ts18⟩)
    (vv2_3 : PySem.W.nsIn K p2 "display" = some (some (.ref p18)))
    {p22 : Addr} {dd22 : Option Addr} {n22 : Nat} {ts22 : Array (Option Value)}
    {t23 : Tok}
    {t24 : Tok}
    (w22 : K.lookup p22 = some ⟨.type "tuple", dd22, .seq #[(.str "yes" t23), (.str "no" t24)] n22, ts22⟩)
    (vv2_4 : PySem.W.nsIn K p2 "hide" = some (some (.ref p22)))
    {p25 : Addr} {dd25 : Option Addr} {n25 : Nat} {ts25 : Array (Option Value)}
    {t26 : Tok}
    (w25 : K.lookup p25 = some ⟨.type "tuple", dd25, .seq #[(.str "auto" t26)] n25, ts25⟩)
    (vv2_5 : PySem.W.nsIn K p2 "width" = some (some (.ref p25)))
    {p27 : Addr} {es27 : Array DictEntry} {n27 : Nat}
    (e_BOUNDS : PySem.W.nsIn K mainGlobals "BOUNDS" = some (some (.ref p27)))
    (w27 : K.lookup p27 = some ⟨.type "dict", none, .dict es27 n27, #[]⟩)
    (kk27 : PySem.W.KeysLit w.params es27.toList)
    (lo27 : (p27 == sysModules) = false)
    (nm27 : es27.toList.map VI.nameOf = (["border", "down", "layer", "margin", "pad", "right", "width"] : List Str).map some)
    {p28 : Addr} {dd28 : Option Addr} {n28 : Nat} {ts28 : Array (Option Value)}
    {t29 : Tok}
    {t30 : Tok}
    (w28 : K.lookup p28 = some ⟨.type "tuple", dd28, .seq #[(.int 0 t29), (.int 1 t30)] n28, ts28⟩)
    (vv27_0 : PySem.W.nsIn K p27 "border" = some (some (.ref p28)))
    {p31 : Addr} {dd31 : Option Addr} {n31 : Nat} {ts31 : Array (Option Value)}
    {t32 : Tok}
    {t33 : Tok}
    (w31 : K.lookup p31 = some ⟨.type "tuple", dd31, .seq #[(.int (-50) t32), (.int 50 t33)] n31, ts31⟩)
    (vv27_1 : PySem.W.nsIn K p27 "down" = some (some (.ref p31)))
    {p34 : Addr} {dd34 : Option Addr} {n34 : Nat} {ts34 : Array (Option Value)}
    {t35 : Tok}
    {t36 : Tok}
    (w34 : K.lookup p34 = some ⟨.type "tuple", dd34, .seq #[(.int (-9) t35), (.int 9 t36)] n34, ts34⟩)
    (vv27_2 : PySem.W.nsIn K p27 "layer" = some (some (.ref p34)))
    {p37 : Addr} {dd37 : Option Addr} {n37 : Nat} {ts37 : Array (Option Value)}
    {t38 : Tok}
    {t39 : Tok}
    (w37 : K.lookup p37 = some ⟨.type "tuple", dd37, .seq #[(.int 0 t38), (.int 20 t39)] n37, ts37⟩)
    (vv27_3 : PySem.W.nsIn K p27 "margin" = some (some (.ref p37)))
    {p40 : Addr} {dd40 : Option Addr} {n40 : Nat} {ts40 : Array (Option Value)}
    {t41 : Tok}
    {t42 : Tok}
    (w40 : K.lookup p40 = some ⟨.type "tuple", dd40, .seq #[(.int 0 t41), (.int 20 t42)] n40, ts40⟩)
    (vv27_4 : PySem.W.nsIn K p27 "pad" = some (some (.ref p40)))
    {p43 : Addr} {dd43 : Option Addr} {n43 : Nat} {ts43 : Array (Option Value)}
    {t44 : Tok}
    {t45 : Tok}
    (w43 : K.lookup p43 = some ⟨.type "tuple", dd43, .seq #[(.int (-50) t44), (.int 50 t45)] n43, ts43⟩)
    (vv27_5 : PySem.W.nsIn K p27 "right" = some (some (.ref p43)))
    {p46 : Addr} {dd46 : Option Addr} {n46 : Nat} {ts46 : Array (Option Value)}
    {t47 : Tok}
    {t48 : Tok}
    (w46 : K.lookup p46 = some ⟨.type "tuple", dd46, .seq #[(.int 0 t47), (.int 200 t48)] n46, ts46⟩)
    (vv27_6 : PySem.W.nsIn K p27 "width" = some (some (.ref p46)))
    {t49 : Tok}
    (e_MOST_PARTS : PySem.W.nsIn K mainGlobals "MOST_PARTS" = some (some (.int 12 t49)))
    {t50 : Tok}
    (e_MOST_FIGURES : PySem.W.nsIn K mainGlobals "MOST_FIGURES" = some (some (.int 3 t50)))
    {t51 : Tok}
    (e_WORD_SIGNS : PySem.W.nsIn K mainGlobals "WORD_SIGNS" = some (some (.str "abcdefghijklmnopqrstuvwxyz-" t51)))
    {t52 : Tok}
    (e_MOST_WORD_SIGNS : PySem.W.nsIn K mainGlobals "MOST_WORD_SIGNS" = some (some (.int 12 t52)))
    {t53 : Tok}
    (e_MOST_COMPOUNDS : PySem.W.nsIn K mainGlobals "MOST_COMPOUNDS" = some (some (.int 4 t53)))
    {t54 : Tok}
    (e_MOST_VALUE_SIGNS : PySem.W.nsIn K mainGlobals "MOST_VALUE_SIGNS" = some (some (.int 12 t54)))
    {t55 : Tok}
    (e_FIRST : PySem.W.nsIn K mainGlobals "FIRST" = some (some (.str ":first" t55)))
    {t56 : Tok}
    (e_MOST_SELECTORS : PySem.W.nsIn K mainGlobals "MOST_SELECTORS" = some (some (.int 6 t56)))
    {t57 : Tok}
    (e_MOST_DECLARATIONS : PySem.W.nsIn K mainGlobals "MOST_DECLARATIONS" = some (some (.int 12 t57)))
    {t58 : Tok}
    (e_STRONG : PySem.W.nsIn K mainGlobals "STRONG" = some (some (.str " !" t58)))
    {p59 : Addr} {dd59 : Option Addr} {n59 : Nat} {ts59 : Array (Option Value)}
    {t60 : Tok}
    {t61 : Tok}
    {t62 : Tok}
    {t63 : Tok}
    (w59 : K.lookup p59 = some ⟨.type "tuple", dd59, .seq #[(.str ";" t60), (.str "{" t61), (.str "}" t62), (.str "\n" t63)] n59, ts59⟩)
    (e_BARRED : PySem.W.nsIn K mainGlobals "BARRED" = some (some (.ref p59))) : Top w K mg where
  d_number_of := ⟨f0, _, fun_mk l0 c0 k0, PySem.W.mg_of X G a0⟩
  d_has_value := ⟨f1, _, fun_mk l1 c1 k1, PySem.W.mg_of X G a1⟩
  d_is_part := ⟨f2, _, fun_mk l2 c2 k2, PySem.W.mg_of X G a2⟩
  d_is_between := ⟨f3, _, fun_mk l3 c3 k3, PySem.W.mg_of X G a3⟩
  d_run_at := ⟨f4, _, fun_mk l4 c4 k4, PySem.W.mg_of X G a4⟩
  d_word_at := ⟨f5, _, fun_mk l5 c5 k5, PySem.W.mg_of X G a5⟩
  d_is_word := ⟨f6, _, fun_mk l6 c6 k6, PySem.W.mg_of X G a6⟩
  d_compounds_of := ⟨f7, _, fun_mk l7 c7 k7, PySem.W.mg_of X G a7⟩
  d_compound_of := ⟨f8, _, fun_mk l8 c8 k8, PySem.W.mg_of X G a8⟩
  d_test_at := ⟨f9, _, fun_mk l9 c9 k9, PySem.W.mg_of X G a9⟩
  d_worth_test_at := ⟨f10, _, fun_mk l10 c10 k10, PySem.W.mg_of X G a10⟩
  d_rules_of := ⟨f11, _, fun_mk l11 c11 k11, PySem.W.mg_of X G a11⟩
  d_own_rules := ⟨f12, _, fun_mk l12 c12 k12, PySem.W.mg_of X G a12⟩
  d_own_declarations := ⟨f13, _, fun_mk l13 c13 k13, PySem.W.mg_of X G a13⟩
  d_rule_of := ⟨f14, _, fun_mk l14 c14 k14, PySem.W.mg_of X G a14⟩
  d_selectors_of := ⟨f15, _, fun_mk l15 c15 k15, PySem.W.mg_of X G a15⟩
  d_declarations_of := ⟨f16, _, fun_mk l16 c16 k16, PySem.W.mg_of X G a16⟩
  d_declaration_of := ⟨f17, _, fun_mk l17 c17 k17, PySem.W.mg_of X G a17⟩
  d_is_value := ⟨f18, _, fun_mk l18 c18 k18, PySem.W.mg_of X G a18⟩
  d__law_bag := ⟨f19, _, fun_mk l19 c19 k19, PySem.W.mg_of X G a19⟩
  d__law_stirred := ⟨f20, _, fun_mk l20 c20 k20, PySem.W.mg_of X G a20⟩
  d__law_draw := ⟨f21, _, fun_mk l21 c21 k21, PySem.W.mg_of X G a21⟩
  d__law_alike := ⟨f22, _, fun_mk l22 c22 k22, PySem.W.mg_of X G a22⟩
  d__law_bounds := ⟨f23, _, fun_mk l23 c23 k23, PySem.W.mg_of X G a23⟩
  d__law_props := ⟨f24, _, fun_mk l24 c24 k24, PySem.W.mg_of X G a24⟩
  d__law_choices := ⟨f25, _, fun_mk l25 c25 k25, PySem.W.mg_of X G a25⟩
  d__law_value := ⟨f26, _, fun_mk l26 c26 k26, PySem.W.mg_of X G a26⟩
  d__law_no_value := ⟨f27, _, fun_mk l27 c27 k27, PySem.W.mg_of X G a27⟩
  d__law_declaration := ⟨f28, _, fun_mk l28 c28 k28, PySem.W.mg_of X G a28⟩
  d__law_declared := ⟨f29, _, fun_mk l29 c29 k29, PySem.W.mg_of X G a29⟩
  d__law_own_look := ⟨f30, _, fun_mk l30 c30 k30, PySem.W.mg_of X G a30⟩
  d__law_is_word := ⟨f31, _, fun_mk l31 c31 k31, PySem.W.mg_of X G a31⟩
  d__law_values := ⟨f32, _, fun_mk l32 c32 k32, PySem.W.mg_of X G a32⟩
  d__law_declaration_of := ⟨f33, _, fun_mk l33 c33 k33, PySem.W.mg_of X G a33⟩
  d__law_declarations_of := ⟨f34, _, fun_mk l34 c34 k34, PySem.W.mg_of X G a34⟩
  d__law_spoilt := ⟨f35, _, fun_mk l35 c35 k35, PySem.W.mg_of X G a35⟩
  d_law := ⟨f36, _, fun_mk l36 c36 k36, PySem.W.mg_of X G a36⟩
  z_abs := PySem.W.mg_none_of X G z_abs
  z_all := PySem.W.mg_none_of X G z_all
  z_bool := PySem.W.mg_none_of X G z_bool
  z_enumerate := PySem.W.mg_none_of X G z_enumerate
  z_int := PySem.W.mg_none_of X G z_int
  z_isinstance := PySem.W.mg_none_of X G z_isinstance
  z_len := PySem.W.mg_none_of X G z_len
  z_list := PySem.W.mg_none_of X G z_list
  z_max := PySem.W.mg_none_of X G z_max
  z_min := PySem.W.mg_none_of X G z_min
  z_range := PySem.W.mg_none_of X G z_range
  z_str := PySem.W.mg_none_of X G z_str
  z_tuple := PySem.W.mg_none_of X G z_tuple
  g_FIGURES := glob_of X G e_FIGURES (cv_str (by decide +kernel))
  d_WORDS := VI.gdict_of X G e_WORDS w2 kk2 lo2 nm2 (.cons (by decide +kernel) vv2_0 (cv_tup w3 (cvs_cons (cv_str (by decide +kernel)) (cvs_cons (cv_str (by decide +kernel)) (cvs_cons (cv_str (by decide +kernel)) (cvs_nil)))) (Nat.le_of_ble_eq_true rfl)) (.cons (by decide +kernel) vv2_1 (cv_tup w7 (cvs_cons (cv_str (by decide +kernel)) (cvs_cons (cv_str (by decide +kernel)) (cvs_cons (cv_str (by decide +kernel)) (cvs_cons (cv_str (by decide +kernel)) (cvs_cons (cv_str (by decide +kernel)) (cvs_nil)))))) (Nat.le_of_ble_eq_true rfl)) (.cons (by decide +kernel) vv2_2 (cv_tup w13 (cvs_cons (cv_str (by decide +kernel)) (cvs_cons (cv_str (by decide +kernel)) (cvs_cons (cv_str (by decide +kernel)) (cvs_cons (cv_str (by decide +kernel)) (cvs_nil))))) (Nat.le_of_ble_eq_true rfl)) (.cons (by decide +kernel) vv2_3 (cv_tup w18 (cvs_cons (cv_str (by decide +kernel)) (cvs_cons (cv_str (by decide +kernel)) (cvs_cons (cv_str (by decide +kernel)) (cvs_nil)))) (Nat.le_of_ble_eq_true rfl)) (.cons (by decide +kernel) vv2_4 (cv_tup w22 (cvs_cons (cv_str (by decide +kernel)) (cvs_cons (cv_str (by decide +kernel)) (cvs_nil))) (Nat.le_of_ble_eq_true rfl)) (.cons (by decide +kernel) vv2_5 (cv_tup w25 (cvs_cons (cv_str (by decide +kernel)) (cvs_nil)) (Nat.le_of_ble_eq_true rfl)) (.nil)))))))
  d_BOUNDS := VI.gdict_of X G e_BOUNDS w27 kk27 lo27 nm27 (.cons (by decide +kernel) vv27_0 (cv_tup w28 (cvs_cons (cv_int _ _) (cvs_cons (cv_int _ _) (cvs_nil))) (Nat.le_of_ble_eq_true rfl)) (.cons (by decide +kernel) vv27_1 (cv_tup w31 (cvs_cons (cv_int _ _) (cvs_cons (cv_int _ _) (cvs_nil))) (Nat.le_of_ble_eq_true rfl)) (.cons (by decide +kernel) vv27_2 (cv_tup w34 (cvs_cons (cv_int _ _) (cvs_cons (cv_int _ _) (cvs_nil))) (Nat.le_of_ble_eq_true rfl)) (.cons (by decide +kernel) vv27_3 (cv_tup w37 (cvs_cons (cv_int _ _) (cvs_cons (cv_int _ _) (cvs_nil))) (Nat.le_of_ble_eq_true rfl)) (.cons (by decide +kernel) vv27_4 (cv_tup w40 (cvs_cons (cv_int _ _) (cvs_cons (cv_int _ _) (cvs_nil))) (Nat.le_of_ble_eq_true rfl)) (.cons (by decide +kernel) vv27_5 (cv_tup w43 (cvs_cons (cv_int _ _) (cvs_cons (cv_int _ _) (cvs_nil))) (Nat.le_of_ble_eq_true rfl)) (.cons (by decide +kernel) vv27_6 (cv_tup w46 (cvs_cons (cv_int _ _) (cvs_cons (cv_int _ _) (cvs_nil))) (Nat.le_of_ble_eq_true rfl)) (.nil))))))))
  g_MOST_PARTS := glob_of X G e_MOST_PARTS (cv_int _ _)
  g_MOST_FIGURES := glob_of X G e_MOST_FIGURES (cv_int _ _)
  g_WORD_SIGNS := glob_of X G e_WORD_SIGNS (cv_str (by decide +kernel))
  g_MOST_WORD_SIGNS := glob_of X G e_MOST_WORD_SIGNS (cv_int _ _)
  g_MOST_COMPOUNDS := glob_of X G e_MOST_COMPOUNDS (cv_int _ _)
  g_MOST_VALUE_SIGNS := glob_of X G e_MOST_VALUE_SIGNS (cv_int _ _)
  g_FIRST := glob_of X G e_FIRST (cv_str (by decide +kernel))
  g_MOST_SELECTORS := glob_of X G e_MOST_SELECTORS (cv_int _ _)
  g_MOST_DECLARATIONS := glob_of X G e_MOST_DECLARATIONS (cv_int _ _)
  g_STRONG := glob_of X G e_STRONG (cv_str (by decide +kernel))
  g_BARRED := glob_of X G e_BARRED (cv_tup w59 (cvs_cons (cv_str (by decide +kernel)) (cvs_cons (cv_str (by decide +kernel)) (cvs_cons (cv_str (by decide +kernel)) (cvs_cons (cv_str (by decide +kernel)) (cvs_nil))))) (Nat.le_of_ble_eq_true rfl))
theorem all_law {P : Program} {w : World} {K : PySem.W.Frag} {mg : Str → Option Value} (T : Top w K mg)  (base : Heap) (i1 : K.In base) (i2 : base.Ns mainGlobals mg) : Body P w K mg base 8 ["script", "bag", "turn", "line", "k", "due", "found", "other", "told"] "law" s_law b_law := by
  have h_number_of := o_number_of (P := P) (w := w) (base := base) T 
  have h_is_between := o_is_between (P := P) (w := w) (base := base) T h_number_of
  have h_is_part := o_is_part (P := P) (w := w) (base := base) T h_is_between
  have h_has_value := o_has_value (P := P) (w := w) (base := base) T h_is_between h_is_part
  have h_run_at := o_run_at (P := P) (w := w) (base := base) T 
  have h_word_at := o_word_at (P := P) (w := w) (base := base) T h_run_at
  have h_is_word := o_is_word (P := P) (w := w) (base := base) T h_word_at
  have h_worth_test_at := o_worth_test_at (P := P) (w := w) (base := base) T h_run_at
  have h_test_at := o_test_at (P := P) (w := w) (base := base) T h_word_at h_worth_test_at
  have h_compound_of := o_compound_of (P := P) (w := w) (base := base) T h_test_at h_word_at
  have h_compounds_of := o_compounds_of (P := P) (w := w) (base := base) T h_compound_of
  have h_is_value := o_is_value (P := P) (w := w) (base := base) T 
  have h_declaration_of := o_declaration_of (P := P) (w := w) (base := base) T h_has_value h_is_value h_is_word
  have h_declarations_of := o_declarations_of (P := P) (w := w) (base := base) T h_declaration_of
  have h_selectors_of := o_selectors_of (P := P) (w := w) (base := base) T h_compounds_of
  have h_rule_of := o_rule_of (P := P) (w := w) (base := base) T h_declarations_of h_selectors_of
  have h_rules_of := o_rules_of (P := P) (w := w) (base := base) T h_rule_of
  have h_own_declarations := o_own_declarations (P := P) (w := w) (base := base) T h_declarations_of
  have h_own_rules := o_own_rules (P := P) (w := w) (base := base) T h_own_declarations
  have q_own_rules := ok_own_rules (P := P) (w := w) (base := base) T h_own_declarations
  have h__law_bag := o__law_bag (P := P) (w := w) (base := base) T 
  have h__law_stirred := o__law_stirred (P := P) (w := w) (base := base) T 
  have h__law_draw := o__law_draw (P := P) (w := w) (base := base) T h__law_stirred
  have h__law_alike := o__law_alike (P := P) (w := w) (base := base) T 
  have h__law_bounds := o__law_bounds (P := P) (w := w) (base := base) T 
  have h__law_props := o__law_props (P := P) (w := w) (base := base) T 
  have h__law_choices := o__law_choices (P := P) (w := w) (base := base) T 
  have h__law_value := o__law_value (P := P) (w := w) (base := base) T h__law_bounds h__law_choices h__law_draw
  have h__law_no_value := o__law_no_value (P := P) (w := w) (base := base) T h__law_bounds h__law_draw
  have h__law_declaration := o__law_declaration (P := P) (w := w) (base := base) T h__law_draw h__law_no_value h__law_props h__law_value
  have h__law_declared := o__law_declared (P := P) (w := w) (base := base) T 
  have h__law_own_look := o__law_own_look (P := P) (w := w) (base := base) T h__law_declaration h__law_declared h__law_draw
  have h__law_is_word := o__law_is_word (P := P) (w := w) (base := base) T 
  have h__law_values := o__law_values (P := P) (w := w) (base := base) T h__law_bounds h__law_choices h__law_props
  have h__law_declaration_of := o__law_declaration_of (P := P) (w := w) (base := base) T h__law_is_word
  have h__law_declarations_of := o__law_declarations_of (P := P) (w := w) (base := base) T h__law_declaration_of h__law_values
  have h__law_spoilt := o__law_spoilt (P := P) (w := w) (base := base) T h__law_draw
  exact y_law T h__law_alike h__law_bag h__law_declaration h__law_declarations_of h__law_declared h__law_draw h__law_own_look h__law_spoilt h_own_rules h_rules_of q_own_rules
end Law
open PySem PySem.W PyProof.Rows
set_option maxHeartbeats 0 in
theorem PySem.Challenge.cw_freshpage_k21_looks_of_single_tags_holds : PySem.Challenge.rw_freshpage_k21_looks_of_single_tags.Holds := by
  w_on; o_law; k_head; (case hw => w_witness2)
  k_fill
  refine L2.walk_ofK (l := PySem.Challenge.rw_freshpage_k21_looks_of_single_tags) (n := 63) (k := 9) (x := "script") (CX := L2.CX0) (sp := VI.spLaw) rfl (by decide) rfl ⟨rfl, by decide, by decide⟩ (fun w h Y => PySem.W.kIn_of Y) ?F (fun _ _ a ns hl _ hS => ⟨a, ns, rfl, hS, hl, fun _ => rfl⟩) (fun _ _ _ _ h => h)
  case F =>
    intro w mg fa h KX G hmg
    suffices T : Law.Top _ _ mg from VI.law_end hmg T.d_law Law.sc_law (fun _ _ _ _ _ _ us hl => match us, hl with | [_], _ => rfl) (Law.all_law T) Law.main
    refine' Law.top_of KX G ?a0 ?l0 ?c0 ?k0 ?a1 ?l1 ?c1 ?k1 ?a2 ?l2 ?c2 ?k2 ?a3 ?l3 ?c3 ?k3 ?a4 ?l4 ?c4 ?k4 ?a5 ?l5 ?c5 ?k5 ?a6 ?l6 ?c6 ?k6 ?a7 ?l7 ?c7 ?k7 ?a8 ?l8 ?c8 ?k8 ?a9 ?l9 ?c9 ?k9 ?a10 ?l10 ?c10 ?k10 ?a11 ?l11 ?c11 ?k11 ?a12 ?l12 ?c12 ?k12 ?a13 ?l13 ?c13 ?k13 ?a14 ?l14 ?c14 ?k14 ?a15 ?l15 ?c15 ?k15 ?a16 ?l16 ?c16 ?k16 ?a17 ?l17 ?c17 ?k17 ?a18 ?l18 ?c18 ?k18 ?a19 ?l19 ?c19 ?k19 ?a20 ?l20 ?c20 ?k20 ?a21 ?l21 ?c21 ?k21 ?a22 ?l22 ?c22 ?k22 ?a23 ?l23 ?c23 ?k23 ?a24 ?l24 ?c24 ?k24 ?a25 ?l25 ?c25 ?k25 ?a26 ?l26 ?c26 ?k26 ?a27 ?l27 ?c27 ?k27 ?a28 ?l28 ?c28 ?k28 ?a29 ?l29 ?c29 ?k29 ?a30 ?l30 ?c30 ?k30 ?a31 ?l31 ?c31 ?k31 ?a32 ?l32 ?c32 ?k32 ?a33 ?l33 ?c33 ?k33 ?a34 ?l34 ?c34 ?k34 ?a35 ?l35 ?c35 ?k35 ?a36 ?l36 ?c36 ?k36 ?z_abs ?z_all ?z_bool ?z_enumerate ?z_int ?z_isinstance ?z_len ?z_list ?z_max ?z_min ?z_range ?z_str ?z_tuple ?e_FIGURES ?e_WORDS ?w2 ?kk2 ?lo2 ?nm2 ?w3 ?vv2_0 ?w7 ?vv2_1 ?w13 ?vv2_2 ?w18 ?vv2_3 ?w22 ?vv2_4 ?w25 ?vv2_5 ?e_BOUNDS ?w27 ?kk27 ?lo27 ?nm27 ?w28 ?vv27_0 ?w31 ?vv27_1 ?w34 ?vv27_2 ?w37 ?vv27_3 ?w40 ?vv27_4 ?w43 ?vv27_5 ?w46 ?vv27_6 ?e_MOST_PARTS ?e_MOST_FIGURES ?e_WORD_SIGNS ?e_MOST_WORD_SIGNS ?e_MOST_COMPOUNDS ?e_MOST_VALUE_SIGNS ?e_FIRST ?e_MOST_SELECTORS ?e_MOST_DECLARATIONS ?e_STRONG ?w59 ?e_BARRED
    (case a0 => k_is); (case l0 => k_is); (case c0 => k_is); (case k0 => k_is); (case a1 => k_is); (case l1 => k_is); (case c1 => k_is); (case k1 => k_is); (case a2 => k_is); (case l2 => k_is); (case c2 => k_is); (case k2 => k_is); (case a3 => k_is); (case l3 => k_is); (case c3 => k_is); (case k3 => k_is); (case a4 => k_is); (case l4 => k_is); (case c4 => k_is); (case k4 => k_is); (case a5 => k_is); (case l5 => k_is); (case c5 => k_is); (case k5 => k_is); (case a6 => k_is); (case l6 => k_is); (case c6 => k_is); (case k6 => k_is); (case a7 => k_is); (case l7 => k_is); (case c7 => k_is); (case k7 => k_is); (case a8 => k_is); (case l8 => k_is); (case c8 => k_is); (case k8 => k_is); (case a9 => k_is); (case l9 => k_is); (case c9 => k_is); (case k9 => k_is); (case a10 => k_is); (case l10 => k_is); (case c10 => k_is); (case k10 => k_is); (case a11 => k_is); (case l11 => k_is); (case c11 => k_is); (case k11 => k_is); (case a12 => k_is); (case l12 => k_is); (case c12 => k_is); (case k12 => k_is); (case a13 => k_is); (case l13 => k_is); (case c13 => k_is); (case k13 => k_is); (case a14 => k_is); (case l14 => k_is); (case c14 => k_is); (case k14 => k_is); (case a15 => k_is); (case l15 => k_is); (case c15 => k_is); (case k15 => k_is); (case a16 => k_is); (case l16 => k_is); (case c16 => k_is); (case k16 => k_is); (case a17 => k_is); (case l17 => k_is); (case c17 => k_is); (case k17 => k_is); (case a18 => k_is); (case l18 => k_is); (case c18 => k_is); (case k18 => k_is); (case a19 => k_is); (case l19 => k_is); (case c19 => k_is); (case k19 => k_is); (case a20 => k_is); (case l20 => k_is); (case c20 => k_is); (case k20 => k_is); (case a21 => k_is); (case l21 => k_is); (case c21 => k_is); (case k21 => k_is); (case a22 => k_is); (case l22 => k_is); (case c22 => k_is); (case k22 => k_is); (case a23 => k_is); (case l23 => k_is); (case c23 => k_is); (case k23 => k_is); (case a24 => k_is); (case l24 => k_is); (case c24 => k_is); (case k24 => k_is); (case a25 => k_is); (case l25 => k_is); (case c25 => k_is); (case k25 => k_is); (case a26 => k_is); (case l26 => k_is); (case c26 => k_is); (case k26 => k_is); (case a27 => k_is); (case l27 => k_is); (case c27 => k_is); (case k27 => k_is); (case a28 => k_is); (case l28 => k_is); (case c28 => k_is); (case k28 => k_is); (case a29 => k_is); (case l29 => k_is); (case c29 => k_is); (case k29 => k_is); (case a30 => k_is); (case l30 => k_is); (case c30 => k_is); (case k30 => k_is); (case a31 => k_is); (case l31 => k_is); (case c31 => k_is); (case k31 => k_is); (case a32 => k_is); (case l32 => k_is); (case c32 => k_is); (case k32 => k_is); (case a33 => k_is); (case l33 => k_is); (case c33 => k_is); (case k33 => k_is); (case a34 => k_is); (case l34 => k_is); (case c34 => k_is); (case k34 => k_is); (case a35 => k_is); (case l35 => k_is); (case c35 => k_is); (case k35 => k_is); (case a36 => k_is); (case l36 => k_is); (case c36 => k_is); (case k36 => k_is); (case z_abs => k_is); (case z_all => k_is); (case z_bool => k_is); (case z_enumerate => k_is); (case z_int => k_is); (case z_isinstance => k_is); (case z_len => k_is); (case z_list => k_is); (case z_max => k_is); (case z_min => k_is); (case z_range => k_is); (case z_str => k_is); (case z_tuple => k_is); (case e_FIGURES => k_is); (case e_WORDS => k_is); (case w2 => k_is); (case vv2_0 => k_is); (case w3 => k_is); (case vv2_1 => k_is); (case w7 => k_is); (case vv2_2 => k_is); (case w13 => k_is); (case vv2_3 => k_is); (case w18 => k_is); (case vv2_4 => k_is); (case w22 => k_is); (case vv2_5 => k_is); (case w25 => k_is); (case e_BOUNDS => k_is); (case w27 => k_is); (case vv27_0 => k_is); (case w28 => k_is); (case vv27_1 => k_is); (case w31 => k_is); (case vv27_2 => k_is); (case w34 => k_is); (case vv27_3 => k_is); (case w37 => k_is); (case vv27_4 => k_is); (case w40 => k_is); (case vv27_5 => k_is); (case w43 => k_is); (case vv27_6 => k_is); (case w46 => k_is); (case e_MOST_PARTS => k_is); (case e_MOST_FIGURES => k_is); (case e_WORD_SIGNS => k_is); (case e_MOST_WORD_SIGNS => k_is); (case e_MOST_COMPOUNDS => k_is); (case e_MOST_VALUE_SIGNS => k_is); (case e_FIRST => k_is); (case e_MOST_SELECTORS => k_is); (case e_MOST_DECLARATIONS => k_is); (case e_STRONG => k_is); (case e_BARRED => k_is); (case w59 => k_is); (case kk2 => k_keys); (case kk27 => k_keys); (case lo2 => first | rfl | decide +kernel); (case nm2 => first | rfl | decide +kernel); (case lo27 => first | rfl | decide +kernel); (case nm27 => first | rfl | decide +kernel)
end
