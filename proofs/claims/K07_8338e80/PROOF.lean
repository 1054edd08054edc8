import PyProof.Rows.All
import Wide.All
import OpenK.AllK
import Wide.FinOn
import HandS.ForMost
import HandS.Deep
import HandS.Zip
import HandS.IsInst
import HandS.TupAny
import HandS.TupMul
import HandS.Conv
import HandS.More
import HandS.Style
import KE.GoesMore
import PyProof.Rows.ReprR
import PyProof.CallFns
import PyProof.ReprRoads
import HandS.Dict
import HandS.TupLen
import KE.KDictDisplayH
import HandS.Ends
import HandS.ExcInit
import HandS.TryOnly
import HandS.WordsExc
import HandS.ExcIs
import KE.SortCalls
import PyProof.FitsInt
import PyProof.P3In
import HandS.ExcField
import KE.KExcIs
import HandS.TryMany
import HandS.FStr
import HandS.StrMore
import HandS.RaiseMore
import PyProof.StrLawsRepr
import PyProof.EqKinds
import PySem.Challenge.RW_endkeepers_k07_whole_texts_of_tellers
set_option Elab.async false
set_option linter.all false
set_option maxRecDepth 100000
set_option maxHeartbeats 4000000
/-! Ly: data behind values, owned lists, and what an expression gives, said of data alone. -/
namespace Ly
open PySem PySem.Spec PyProof.Rows L2

/-- data: what a value stands for -/
inductive D where
  | non | bl (b : Bool) | int (i : Int) | str (x : Str)
  | tup (l : List D) | lst (l : List D) | dct | dc0 | bag (a : Addr) | scr (ns : List Int) | ty (n : String)

/-- what an expression gives: a datum, or a list that is new and nobody else's -/
inductive RV where
  | val (d : D) | new (l : List D) | newD (t : Bool) (m : List (List Key × D))
/-- what a name holds: nothing that counts, a datum, or a list of its own -/
inductive SV where
  | un | val (d : D) | own (l : List D) | ownD (t : Bool) (m : List (List Key × D)) | err (a : Addr) (d : Option Addr) (nms : List Str) (ds : List D)

/-- whose an address is -/
inductive Tg where
  | free | fro | oth | bagd (b : Addr) | bagl (a : Addr) | slot (i : Nat) | tmp (i : Nat)
  deriving DecidableEq
abbrev Gh := Addr → Tg
def updG (G : Gh) (a : Addr) (t : Tg) : Gh := fun b => if b = a then t else G b
theorem updG_same {G : Gh} {a : Addr} {t : Tg} : updG G a t a = t := by unfold updG; rw [if_pos rfl]
theorem updG_ne {G : Gh} {a b : Addr} {t : Tg} (h : b ≠ a) : updG G a t b = G b := by unfold updG; rw [if_neg h]

/-- the script: read, never written -/
def ScrP (K : PySem.W.Frag) (H : Hp) (a : Addr) (ns : List Int) : Prop := (∃ o, H a = some (.frz o (.lst (ns.map V.int)))) ∨
  ∃ (o : Obj) (its : Array Value) (n : Nat), K.lookup a = some o ∧ o.cls = .type "list" ∧ o.dict = none ∧ o.data = .seq its n ∧ its.size ≤ sizeLine ∧ Vals (ns.map V.int) its.toList
theorem ScrP.seq {K : PySem.W.Frag} {H : Hp} {a : Addr} {ns : List Int} (h : ScrP K H a ns) : SqL K H a (ns.map V.int) := by
  rcases h with ⟨o, h⟩ | h
  · exact .inl (.inr ⟨o, h⟩)
  · exact .inr h
mutual
inductive Rep (K : PySem.W.Frag) (G : Gh) (H : Hp) : V → D → Prop
  | non : Rep K G H .non .non
  | bl (b : Bool) : Rep K G H (.bl b) (.bl b)
  | int (i : Int) : Rep K G H (.int i) (.int i)
  | str (x : Str) : Rep K G H (.str x) (.str x)
  | ty (n : String) : Rep K G H (.ty n) (.ty n)
  | tup {a : Addr} {vs : List V} {ds : List D} : H a = some (.tup vs) → RepL K G H vs ds → Rep K G H (.ref a) (.tup ds)
  | lst {a : Addr} {vs : List V} {ds : List D} : G a = .fro → H a = some (.lst vs) → RepL K G H vs ds → Rep K G H (.ref a) (.lst ds)
  | dct {a : Addr} {o : HO} : G a = .fro → H a = some o → (∃ kvs, o = .dK kvs) ∨ (∃ kvs, o = .dT kvs) → Rep K G H (.ref a) .dct
  | dc0 {a : Addr} : G a = .fro → H a = some (.dK []) → Rep K G H (.ref a) .dc0
  | bag {a b : Addr} : G a = .bagd b → Rep K G H (.ref a) (.bag a)
  | scr {a : Addr} {ns : List Int} : ScrP K H a ns → Rep K G H (.ref a) (.scr ns)
inductive RepL (K : PySem.W.Frag) (G : Gh) (H : Hp) : List V → List D → Prop
  | nil : RepL K G H [] []
  | cons {v : V} {vs : List V} {d : D} {ds : List D} : Rep K G H v d → RepL K G H vs ds → RepL K G H (v :: vs) (d :: ds)
end

/-- what stays -/
structure Ext (G : Gh) (H : Hp) (G' : Gh) (H' : Hp) : Prop where
  fro : ∀ a, G a = .fro → G' a = .fro ∧ ∀ o, H a = some o → H' a = some o
  tup : ∀ a xs, H a = some (.tup xs) → H' a = some (.tup xs)
  frz : ∀ a o u, H a = some (.frz o u) → H' a = some (.frz o u)
  bag : ∀ a b, G a = .bagd b → G' a = .bagd b
theorem Ext.refl {G : Gh} {H : Hp} : Ext G H G H := ⟨fun _ h => ⟨h, fun _ e => e⟩, fun _ _ e => e, fun _ _ _ e => e, fun _ _ e => e⟩
theorem Ext.trans {G G1 G2 : Gh} {H H1 H2 : Hp} (x : Ext G H G1 H1) (y : Ext G1 H1 G2 H2) : Ext G H G2 H2 :=
  ⟨fun a h => ⟨(y.fro a (x.fro a h).1).1, fun o e => (y.fro a (x.fro a h).1).2 o ((x.fro a h).2 o e)⟩, fun a xs e => y.tup a xs (x.tup a xs e), fun a o u e => y.frz a o u (x.frz a o u e), fun a b e => y.bag a b (x.bag a b e)⟩
theorem Ext.seqT {K : PySem.W.Frag} {G G' : Gh} {H H' : Hp} {a : Addr} {xs : List V} (x : Ext G H G' H') (h : SqT K H a xs) : SqT K H' a xs := by
  rcases h with (h | ⟨o, h⟩) | h
  · exact .inl (.inl (x.tup _ _ h))
  · exact .inl (.inr ⟨o, x.frz _ _ _ h⟩)
  · exact .inr h
theorem Ext.scr {K : PySem.W.Frag} {G G' : Gh} {H H' : Hp} {a : Addr} {ns : List Int} (x : Ext G H G' H') (h : ScrP K H a ns) : ScrP K H' a ns := by
  rcases h with ⟨o, h⟩ | h
  · exact .inl ⟨o, x.frz _ _ _ h⟩
  · exact .inr h
mutual
theorem Rep.mono {K : PySem.W.Frag} {G G' : Gh} {H H' : Hp} (x : Ext G H G' H') : ∀ {v : V} {d : D}, Rep K G H v d → Rep K G' H' v d
  | _, .non, .non => .non
  | _, .bl b, .bl _ => .bl b
  | _, .int i, .int _ => .int i
  | _, .str s, .str _ => .str s
  | _, .ty s, .ty _ => .ty s
  | _, .tup ds, .tup h r => .tup (x.tup _ _ h) (RepL.mono x r)
  | _, .lst ds, .lst g h r => .lst (x.fro _ g).1 ((x.fro _ g).2 _ h) (RepL.mono x r)
  | _, .dct, .dct g h y => .dct (x.fro _ g).1 ((x.fro _ g).2 _ h) y
  | _, .dc0, .dc0 g h => .dc0 (x.fro _ g).1 ((x.fro _ g).2 _ h)
  | _, .bag _, .bag g => .bag (x.bag _ _ g)
  | _, .scr _, .scr h => .scr (x.scr h)
theorem RepL.mono {K : PySem.W.Frag} {G G' : Gh} {H H' : Hp} (x : Ext G H G' H') : ∀ {vs : List V} {ds : List D}, RepL K G H vs ds → RepL K G' H' vs ds
  | _, [], .nil => .nil
  | _, _ :: _, .cons a b => .cons (Rep.mono x a) (RepL.mono x b)
end
theorem RepL.length {K : PySem.W.Frag} {G : Gh} {H : Hp} : ∀ {vs : List V} {ds : List D}, RepL K G H vs ds → vs.length = ds.length
  | _, _, .nil => rfl
  | _, _, .cons _ t => by rw [List.length_cons, List.length_cons, RepL.length t]
theorem RepL.append {K : PySem.W.Frag} {G : Gh} {H : Hp} : ∀ {vs ws : List V} {ds es : List D}, RepL K G H vs ds → RepL K G H ws es → RepL K G H (vs ++ ws) (ds ++ es)
  | _, _, _, _, .nil, s => s
  | _, _, _, _, .cons r t, s => .cons r (RepL.append t s)
theorem RepL.get {K : PySem.W.Frag} {G : Gh} {H : Hp} : ∀ {vs : List V} {ds : List D} {i : Nat} {d : D}, RepL K G H vs ds → ds[i]? = some d → ∃ v, vs[i]? = some v ∧ Rep K G H v d
  | _, _, _, _, .nil, e => by simp at e
  | _, _, 0, _, .cons r _, e => by simp at e; subst e; exact ⟨_, rfl, r⟩
  | _, _, i + 1, d, .cons _ t, e => by
    obtain ⟨v, h1, h2⟩ := RepL.get (i := i) (d := d) t (by simpa using e)
    exact ⟨v, by simpa using h1, h2⟩
theorem RepL.getV {K : PySem.W.Frag} {G : Gh} {H : Hp} : ∀ {vs : List V} {ds : List D} {i : Nat} {v : V}, RepL K G H vs ds → vs[i]? = some v → ∃ d, ds[i]? = some d ∧ Rep K G H v d
  | _, _, _, _, .nil, e => by simp at e
  | _, _, 0, _, .cons r _, e => by simp at e; subst e; exact ⟨_, rfl, r⟩
  | _, _, i + 1, d, .cons _ t, e => by
    obtain ⟨v, h1, h2⟩ := RepL.getV (i := i) (v := d) t (by simpa using e)
    exact ⟨v, by simpa using h1, h2⟩
theorem RepL.set {K : PySem.W.Frag} {G : Gh} {H : Hp} {v : V} {d : D} (r : Rep K G H v d) : ∀ {vs : List V} {ds : List D} (i : Nat), RepL K G H vs ds → RepL K G H (vs.set i v) (ds.set i d)
  | _, _, _, .nil => .nil
  | _, _, 0, .cons _ t => .cons r t
  | _, _, i + 1, .cons q t => .cons q (RepL.set r i t)
theorem RepL.take {K : PySem.W.Frag} {G : Gh} {H : Hp} : ∀ {vs : List V} {ds : List D} (n : Nat), RepL K G H vs ds → RepL K G H (vs.take n) (ds.take n)
  | _, _, 0, _ => .nil
  | _, _, _ + 1, .nil => .nil
  | _, _, n + 1, .cons r t => .cons r (RepL.take n t)
theorem RepL.drop {K : PySem.W.Frag} {G : Gh} {H : Hp} : ∀ {vs : List V} {ds : List D} (n : Nat), RepL K G H vs ds → RepL K G H (vs.drop n) (ds.drop n)
  | _, _, 0, r => r
  | _, _, _ + 1, .nil => .nil
  | _, _, n + 1, .cons _ t => RepL.drop n t
theorem RepL.eraseIdx {K : PySem.W.Frag} {G : Gh} {H : Hp} : ∀ {vs : List V} {ds : List D} (i : Nat), RepL K G H vs ds → RepL K G H (vs.eraseIdx i) (ds.eraseIdx i)
  | _, _, _, .nil => .nil
  | _, _, 0, .cons _ t => t
  | _, _, i + 1, .cons q t => .cons q (RepL.eraseIdx i t)
theorem RepL.reverse {K : PySem.W.Frag} {G : Gh} {H : Hp} : ∀ {vs : List V} {ds : List D}, RepL K G H vs ds → RepL K G H vs.reverse ds.reverse
  | _, _, .nil => .nil
  | _, _, .cons r t => by rw [List.reverse_cons, List.reverse_cons]; exact (RepL.reverse t).append (.cons r .nil)
theorem RepL.rep {K : PySem.W.Frag} {G : Gh} {H : Hp} {vs : List V} {ds : List D} (h : RepL K G H vs ds) : ∀ k : Nat, RepL K G H (List.replicate k vs).flatten (List.replicate k ds).flatten
  | 0 => .nil
  | k + 1 => by rw [List.replicate_succ, List.replicate_succ, List.flatten_cons, List.flatten_cons]; exact h.append (RepL.rep h k)
theorem RepL.nil_iff {K : PySem.W.Frag} {G : Gh} {H : Hp} {vs : List V} {ds : List D} (h : RepL K G H vs ds) : vs = [] ↔ ds = [] := by
  cases h <;> simp

/-- a dict's pairs: its keys are tuples of ints and texts -/
inductive RepM (K : PySem.W.Frag) (G : Gh) (H : Hp) : List (List Key × V) → List (List Key × D) → Prop
  | nil : RepM K G H [] []
  | cons {k : List Key} {v : V} {d : D} {vs : List (List Key × V)} {ds : List (List Key × D)} : Rep K G H v d → RepM K G H vs ds → RepM K G H ((k, v) :: vs) ((k, d) :: ds)
theorem RepM.mono {K : PySem.W.Frag} {G G' : Gh} {H H' : Hp} (x : Ext G H G' H') : ∀ {vs : List (List Key × V)} {ds : List (List Key × D)}, RepM K G H vs ds → RepM K G' H' vs ds
  | _, [], .nil => .nil
  | _, _ :: _, .cons a b => .cons (a.mono x) (RepM.mono x b)
theorem RepM.length {K : PySem.W.Frag} {G : Gh} {H : Hp} : ∀ {vs : List (List Key × V)} {ds : List (List Key × D)}, RepM K G H vs ds → vs.length = ds.length
  | _, _, .nil => rfl
  | _, _, .cons _ t => by rw [List.length_cons, List.length_cons, RepM.length t]

/-- a dict whose keys are ints and texts (as lists of one), or tuples of such (t) -/
def OwnD (K : PySem.W.Frag) (G : Gh) (H : Hp) (t : Bool) (u : HO) (m : List (List Key × D)) : Prop := match t with
  | true => ∃ vs, u = .dT vs ∧ RepM K G H vs m
  | false => ∃ vs : List (Key × V), u = .dK vs ∧ RepM K G H (vs.map fun p => ([p.1], p.2)) m
theorem OwnD.mono {K : PySem.W.Frag} {G G' : Gh} {H H' : Hp} {t : Bool} {u : HO} {m : List (List Key × D)} (x : Ext G H G' H') (h : OwnD K G H t u m) : OwnD K G' H' t u m := by
  cases t with
  | true => obtain ⟨vs, e, r⟩ := h; exact ⟨vs, e, r.mono x⟩
  | false => obtain ⟨vs, e, r⟩ := h; exact ⟨vs, e, r.mono x⟩
theorem OwnD.isD {K : PySem.W.Frag} {G : Gh} {H : Hp} {t : Bool} {u : HO} {m : List (List Key × D)} (h : OwnD K G H t u m) : (∃ kvs, u = .dK kvs) ∨ ∃ kvs, u = .dT kvs := by
  cases t with
  | true => obtain ⟨vs, e, r⟩ := h; exact .inr ⟨_, e⟩
  | false => obtain ⟨vs, e, r⟩ := h; exact .inl ⟨_, e⟩

/-! ### what a name, what a value on the way holds -/
def SlotOk (K : PySem.W.Frag) (G : Gh) (H : Hp) (o : Option (Option V)) (i : Nat) : SV → Prop
  | .un => True
  | .val d => ∃ v, o = some (some v) ∧ Rep K G H v d
  | .own l => ∃ a vs, o = some (some (.ref a)) ∧ G a = .slot i ∧ H a = some (.lst vs) ∧ RepL K G H vs l
  | .ownD t m => ∃ a u, o = some (some (.ref a)) ∧ G a = .slot i ∧ H a = some u ∧ OwnD K G H t u m
  | .err a d nms ds => o = some (some (.ref a)) ∧ (nms = [] → d = none) ∧ (nms ≠ [] → ∃ dd vs, d = some dd ∧ G dd = .fro ∧ H dd = some (.xd vs) ∧ vs.map (·.1) = nms ∧ RepL K G H (vs.map (·.2)) ds)
def TmpOk (K : PySem.W.Frag) (G : Gh) (H : Hp) (j : Nat) (v : V) : RV → Prop
  | .val d => Rep K G H v d
  | .new l => ∃ a vs, v = .ref a ∧ G a = .tmp j ∧ H a = some (.lst vs) ∧ RepL K G H vs l
  | .newD t m => ∃ a u, v = .ref a ∧ G a = .tmp j ∧ H a = some u ∧ OwnD K G H t u m
/-- the drawing bag: its dict, its list, how often it was drawn from -/
def kFar : Key := .inr (Str.ofString "far")
def kStir : Key := .inr (Str.ofString "stirred")
def kTurn : Key := .inr (Str.ofString "turn")
def BagOk (G : Gh) (H : Hp) (n : Nat) (a b : Addr) : Prop :=
  G b = .bagl a ∧ ∃ (far : List Int) (s t : Int), H a = some (.dK [(kFar, .ref b), (kStir, .int s), (kTurn, .int t)]) ∧ H b = some (.lst (far.map V.int)) ∧ far.length ≤ 63 ∧ 0 ≤ s ∧ s < 4294967291 ∧ 0 ≤ t ∧ t ≤ n
/-- the caller's objects stand as they stood -/
structure Gr (G0 : Gh) (H0 : Hp) (G : Gh) (H : Hp) : Prop where
  keep : ∀ a o, H0 a = some o → (∀ b, G0 a ≠ .bagd b) → (∀ b, G0 a ≠ .bagl b) → H a = some o ∧ G a = G0 a
  bagd : ∀ a b, G0 a = .bagd b → G a = .bagd b
  bagl : ∀ a b, G0 a = .bagl b → G a = .bagl b
  tup : ∀ a xs, H0 a = some (.tup xs) → H a = some (.tup xs)
  frz : ∀ a o u, H0 a = some (.frz o u) → H a = some (.frz o u)
structure EnvOk (K : PySem.W.Frag) (G0 : Gh) (H0 : Hp) (G : Gh) (H : Hp) (σ : L2.St) (ρ : List SV) (n : Nat) (τ : List (V × RV)) : Prop where
  gr : Gr G0 H0 G H
  ns : ∀ a i, G0 a ≠ .slot i
  nt : ∀ a i, G0 a ≠ .tmp i
  bg : ∀ a b, G a = .bagd b → BagOk G H n a b
  fh : ∀ a, H a = none → G a = .free
  ln : ρ.length = σ.length
  sl : ∀ i s, ρ[i]? = some s → SlotOk K G H σ[i]? i s
  tm : ∀ j v r, τ[j]? = some (v, r) → TmpOk K G H j v r

section
variable {K : PySem.W.Frag} {G0 G G' : Gh} {H0 H H' : Hp} {σ : L2.St} {ρ : List SV} {n n' : Nat} {τ : List (V × RV)} {v : V} {r : RV} {d : D} {l : List D} {a p : Addr} {i j : Nat} {o : HO} {t : Tg}
theorem SlotOk.mono {oo : Option (Option V)} {s : SV} (x : Ext G H G' H') (k : ∀ a u, G a = .slot i → H a = some u → G' a = .slot i ∧ H' a = some u) (h : SlotOk K G H oo i s) : SlotOk K G' H' oo i s := by
  cases s with
  | un => trivial
  | val d => obtain ⟨v, e, r⟩ := h; exact ⟨v, e, r.mono x⟩
  | own l => obtain ⟨a, vs, e, g, q, r⟩ := h; exact ⟨a, vs, e, (k a _ g q).1, (k a _ g q).2, r.mono x⟩
  | ownD t m => obtain ⟨a, vs, e, g, q, r⟩ := h; exact ⟨a, vs, e, (k a _ g q).1, (k a _ g q).2, r.mono x⟩
  | err a d nms ds => obtain ⟨e, z, h⟩ := h; exact ⟨e, z, fun hn => by obtain ⟨dd, vs, h1, h2, h3, h4, h5⟩ := h hn; exact ⟨dd, vs, h1, (x.fro _ h2).1, (x.fro _ h2).2 _ h3, h4, h5.mono x⟩⟩
theorem TmpOk.mono (x : Ext G H G' H') (k : ∀ a u, G a = .tmp j → H a = some u → G' a = .tmp j ∧ H' a = some u) (h : TmpOk K G H j v r) : TmpOk K G' H' j v r := by
  cases r with
  | val d => exact Rep.mono x h
  | new l => obtain ⟨a, vs, e, g, q, r⟩ := h; exact ⟨a, vs, e, (k a _ g q).1, (k a _ g q).2, r.mono x⟩
  | newD t m => obtain ⟨a, vs, e, g, q, r⟩ := h; exact ⟨a, vs, e, (k a _ g q).1, (k a _ g q).2, r.mono x⟩
theorem EnvOk.next (e : EnvOk K G0 H0 G H σ ρ n τ) (x : Ext G H G' H') (gr : Gr G0 H0 G' H') (bg : ∀ a b, G' a = .bagd b → BagOk G' H' n' a b) (fh : ∀ a, H' a = none → G' a = .free)
    (ks : ∀ i a u, G a = .slot i → H a = some u → G' a = .slot i ∧ H' a = some u) (kt : ∀ i a u, G a = .tmp i → H a = some u → G' a = .tmp i ∧ H' a = some u) :
    EnvOk K G0 H0 G' H' σ ρ n' τ :=
  ⟨gr, e.ns, e.nt, bg, fh, e.ln, fun i s h => (e.sl i s h).mono x (ks i), fun j v r h => (e.tm j v r h).mono x (kt j)⟩
theorem EnvOk.alloc (e : EnvOk K G0 H0 G H σ ρ n τ) (hp : H p = none) (o : HO) (t : Tg) (ht : ∀ b, t ≠ .bagd b) : EnvOk K G0 H0 (updG G p t) (upd H p o) σ ρ n τ := by
  have gp := e.fh p hp
  have ne : ∀ a u, H a = some u → a ≠ p := fun a u q => ne_of_none q hp
  have neG : ∀ a, G a ≠ .free → a ≠ p := fun a q z => q (z ▸ gp)
  refine e.next ⟨fun a q => ?_, fun a xs q => ?_, fun a ob u q => ?_, fun a b q => ?_⟩ ⟨fun a u q h1 h2 => ?_, fun a b q => ?_, fun a b q => ?_, fun a xs q => by have z := e.gr.tup a xs q; rw [upd_ne (ne a _ z)]; exact z, fun a ob u q => by have z := e.gr.frz a ob u q; rw [upd_ne (ne a _ z)]; exact z⟩ (fun a b q => ?_) (fun a q => ?_) (fun i a vs g q => ?_) (fun i a vs g q => ?_)
  · have h := neG a (by rw [q]; simp)
    rw [updG_ne h]
    exact ⟨q, fun u z => by rw [upd_ne h]; exact z⟩
  · rw [upd_ne (ne a _ q)]; exact q
  · rw [upd_ne (ne a _ q)]; exact q
  · rw [updG_ne (neG a (by rw [q]; simp))]; exact q
  · obtain ⟨z1, z2⟩ := e.gr.keep a u q h1 h2
    rw [upd_ne (ne a _ z1), updG_ne (ne a _ z1)]
    exact ⟨z1, z2⟩
  · have z := e.gr.bagd a b q
    rw [updG_ne (neG a (by rw [z]; simp))]; exact z
  · have z := e.gr.bagl a b q
    rw [updG_ne (neG a (by rw [z]; simp))]; exact z
  · have h : a ≠ p := fun z => by subst z; rw [updG_same] at q; exact ht b q
    rw [updG_ne h] at q
    obtain ⟨gb, far, s, t, ha, hb, z⟩ := e.bg a b q
    refine ⟨by rw [updG_ne (ne b _ hb)]; exact gb, far, s, t, by rw [upd_ne h]; exact ha, by rw [upd_ne (ne b _ hb)]; exact hb, z⟩
  · by_cases h : a = p
    · subst h; rw [upd_same] at q; cases q
    · rw [upd_ne h] at q; rw [updG_ne h]; exact e.fh a q
  · rw [updG_ne (ne a _ q), upd_ne (ne a _ q)]; exact ⟨g, q⟩
  · rw [updG_ne (ne a _ q), upd_ne (ne a _ q)]; exact ⟨g, q⟩
theorem Ext.alloc (e : EnvOk K G0 H0 G H σ ρ n τ) (hp : H p = none) : Ext G H (updG G p t) (upd H p o) := by
  have gp := e.fh p hp
  have ne : ∀ a u, H a = some u → a ≠ p := fun a u q => ne_of_none q hp
  have neG : ∀ a, G a ≠ .free → a ≠ p := fun a q z => q (z ▸ gp)
  refine ⟨fun a q => ?_, fun a xs q => ?_, fun a ob u q => ?_, fun a b q => ?_⟩
  · have h := neG a (by rw [q]; simp)
    rw [updG_ne h]
    exact ⟨q, fun u z => by rw [upd_ne h]; exact z⟩
  · rw [upd_ne (ne a _ q)]; exact q
  · rw [upd_ne (ne a _ q)]; exact q
  · rw [updG_ne (neG a (by rw [q]; simp))]; exact q
theorem EnvOk.push (e : EnvOk K G0 H0 G H σ ρ n τ) (h : TmpOk K G H τ.length v r) : EnvOk K G0 H0 G H σ ρ n (τ ++ [(v, r)]) :=
  ⟨e.gr, e.ns, e.nt, e.bg, e.fh, e.ln, e.sl, fun j v' r' q => by
    by_cases hj : j < τ.length
    · rw [List.getElem?_append_left hj] at q; exact e.tm j v' r' q
    · rw [List.getElem?_append_right (by omega)] at q
      have : j = τ.length := by
        cases hk : j - τ.length with
        | zero => omega
        | succ k => rw [hk] at q; simp at q
      subst this
      simp at q
      obtain ⟨rfl, rfl⟩ := q
      exact h⟩
theorem EnvOk.pushV (e : EnvOk K G0 H0 G H σ ρ n τ) (h : Rep K G H v d) : EnvOk K G0 H0 G H σ ρ n (τ ++ [(v, .val d)]) := e.push (r := .val d) h
theorem EnvOk.pop {τ' : List (V × RV)} (e : EnvOk K G0 H0 G H σ ρ n (τ ++ τ')) : EnvOk K G0 H0 G H σ ρ n τ :=
  ⟨e.gr, e.ns, e.nt, e.bg, e.fh, e.ln, e.sl, fun j v' r' q => e.tm j v' r' (by
    rw [List.getElem?_append_left]
    · exact q
    · exact (List.getElem?_eq_some_iff.mp q).1)⟩
theorem EnvOk.top (e : EnvOk K G0 H0 G H σ ρ n (τ ++ [(v, r)])) : TmpOk K G H τ.length v r := e.tm _ v r (by simp)
theorem EnvOk.top2 {v' : V} {r' : RV} (e : EnvOk K G0 H0 G H σ ρ n (τ ++ [(v, r)] ++ [(v', r')])) : TmpOk K G H τ.length v r := e.tm _ v r (by simp)
theorem EnvOk.topV (e : EnvOk K G0 H0 G H σ ρ n (τ ++ [(v, .val d)])) : Rep K G H v d := e.top
/-- an owned address is none of the caller's -/
theorem EnvOk.notIn (e : EnvOk K G0 H0 G H σ ρ n τ) (g : (∃ i, G a = .slot i) ∨ ∃ i, G a = .tmp i) : H0 a = none := by
  cases q : H0 a with
  | none => rfl
  | some u =>
    by_cases h1 : ∃ b, G0 a = .bagd b
    · obtain ⟨b, h1⟩ := h1
      have z := e.gr.bagd a b h1
      rcases g with ⟨i, g⟩ | ⟨i, g⟩ <;> (rw [g] at z; cases z)
    · by_cases h2 : ∃ b, G0 a = .bagl b
      · obtain ⟨b, h2⟩ := h2
        have z := e.gr.bagl a b h2
        rcases g with ⟨i, g⟩ | ⟨i, g⟩ <;> (rw [g] at z; cases z)
      · have z := (e.gr.keep a u q (fun b y => h1 ⟨b, y⟩) fun b y => h2 ⟨b, y⟩).2
        rcases g with ⟨i, g⟩ | ⟨i, g⟩
        · rw [g] at z; exact absurd z.symm (e.ns a i)
        · rw [g] at z; exact absurd z.symm (e.nt a i)
/-- the tag of an owned list is turned: to a datum's, or to a name's -/
theorem EnvOk.retag {u0 : HO} (e : EnvOk K G0 H0 G H σ ρ n τ) (ha : H a = some u0) (g : (∃ i, G a = .slot i) ∨ ∃ i, G a = .tmp i) (t : Tg) (ht : ∀ b, t ≠ .bagd b) :
    Gr G0 H0 (updG G a t) H ∧ Ext G H (updG G a t) H ∧ (∀ c b, updG G a t c = .bagd b → BagOk (updG G a t) H n c b) ∧ ∀ c, H c = none → updG G a t c = .free := by
  have h0 := e.notIn g
  have nf : G a ≠ .fro := by rcases g with ⟨i, g⟩ | ⟨i, g⟩ <;> (rw [g]; simp)
  have nb : ∀ b, G a ≠ .bagd b := by rcases g with ⟨i, g⟩ | ⟨i, g⟩ <;> (rw [g]; simp)
  have nl : ∀ b, G a ≠ .bagl b := by rcases g with ⟨i, g⟩ | ⟨i, g⟩ <;> (rw [g]; simp)
  refine ⟨⟨fun c u q h1 h2 => ?_, fun c b q => ?_, fun c b q => ?_, e.gr.tup, e.gr.frz⟩, ⟨fun c q => ?_, fun _ _ q => q, fun _ _ _ q => q, fun c b q => ?_⟩, fun c b q => ?_, fun c q => ?_⟩
  · have h : c ≠ a := fun z => by subst z; rw [h0] at q; cases q
    rw [updG_ne h]; exact e.gr.keep c u q h1 h2
  · have z := e.gr.bagd c b q
    have h : c ≠ a := fun y => by subst y; exact nb b z
    rw [updG_ne h]; exact z
  · have z := e.gr.bagl c b q
    have h : c ≠ a := fun y => by subst y; exact nl b z
    rw [updG_ne h]; exact z
  · have h : c ≠ a := fun y => by subst y; exact nf q
    rw [updG_ne h]; exact ⟨q, fun _ z => z⟩
  · have h : c ≠ a := fun y => by subst y; exact nb b q
    rw [updG_ne h]; exact q
  · have h : c ≠ a := fun y => by subst y; rw [updG_same] at q; exact ht b q
    rw [updG_ne h] at q
    obtain ⟨gb, z⟩ := e.bg c b q
    have h' : b ≠ a := fun y => by subst y; exact nl c gb
    exact ⟨by rw [updG_ne h']; exact gb, z⟩
  · have h : c ≠ a := fun y => by subst y; rw [ha] at q; cases q
    rw [updG_ne h]; exact e.fh c q
/-- a new list, held as the last value, becomes a datum -/
def frz : RV → RV
  | .val d => .val d
  | .new l => .val (.lst l)
  | .newD _ _ => .val .dct
theorem EnvOk.freeze (e : EnvOk K G0 H0 G H σ ρ n (τ ++ [(v, r)])) : ∃ G', Ext G H G' H ∧ EnvOk K G0 H0 G' H σ ρ n (τ ++ [(v, frz r)]) := by
  cases r with
  | val d => exact ⟨G, .refl, e⟩
  | new l =>
    obtain ⟨a, vs, rfl, g, ha, rl⟩ := e.top
    obtain ⟨gr, x, bg, fh⟩ := e.retag ha (.inr ⟨_, g⟩) .fro (by simp)
    have ne : ∀ c i, G c = .slot i → c ≠ a := fun c i q z => by subst z; rw [q] at g; cases g
    have ne' : ∀ c i, i ≠ τ.length → G c = .tmp i → c ≠ a := fun c i hi q z => by subst z; rw [q] at g; cases g; exact hi rfl
    refine ⟨_, x, EnvOk.push ⟨gr, e.ns, e.nt, bg, fh, e.ln, fun i s h => (e.sl i s h).mono x fun c vs g' q => ⟨by rw [updG_ne (ne c i g')]; exact g', q⟩, fun j v' r' h => ?_⟩ (.lst updG_same ha (rl.mono x))⟩
    have hj : j < τ.length := (List.getElem?_eq_some_iff.mp h).1
    exact (e.pop.tm j v' r' h).mono x fun c vs g' q => ⟨by rw [updG_ne (ne' c j (by omega) g')]; exact g', q⟩
  | newD t l =>
    obtain ⟨a, vs, rfl, g, ha, rl⟩ := e.top
    obtain ⟨gr, x, bg, fh⟩ := e.retag ha (.inr ⟨_, g⟩) .fro (by simp)
    have ne : ∀ c i, G c = .slot i → c ≠ a := fun c i q z => by subst z; rw [q] at g; cases g
    have ne' : ∀ c i, i ≠ τ.length → G c = .tmp i → c ≠ a := fun c i hi q z => by subst z; rw [q] at g; cases g; exact hi rfl
    refine ⟨_, x, EnvOk.push ⟨gr, e.ns, e.nt, bg, fh, e.ln, fun i s h => (e.sl i s h).mono x fun c vs g' q => ⟨by rw [updG_ne (ne c i g')]; exact g', q⟩, fun j v' r' h => ?_⟩ (.dct updG_same ha rl.isD)⟩
    have hj : j < τ.length := (List.getElem?_eq_some_iff.mp h).1
    exact (e.pop.tm j v' r' h).mono x fun c vs g' q => ⟨by rw [updG_ne (ne' c j (by omega) g')]; exact g', q⟩
theorem EnvOk.freeze2 {v' : V} {d' : D} (e : EnvOk K G0 H0 G H σ ρ n (τ ++ [(v, r)] ++ [(v', .val d')])) : ∃ G', Ext G H G' H ∧ EnvOk K G0 H0 G' H σ ρ n (τ ++ [(v, frz r)] ++ [(v', .val d')]) := by
  obtain ⟨G', x, e'⟩ := e.pop.freeze
  exact ⟨G', x, e'.push (Rep.mono x e.topV)⟩
/-- a name's own list becomes a datum -/
theorem EnvOk.freezeS (e : EnvOk K G0 H0 G H σ ρ n τ) (h : ρ[i]? = some (.own l)) : ∃ G', Ext G H G' H ∧ EnvOk K G0 H0 G' H σ (ρ.set i (.val (.lst l))) n τ := by
  obtain ⟨a, vs, ea, g, ha, rl⟩ := e.sl i _ h
  obtain ⟨gr, x, bg, fh⟩ := e.retag ha (.inl ⟨_, g⟩) .fro (by simp)
  have ne : ∀ c j, j ≠ i → G c = .slot j → c ≠ a := fun c j hj q z => by subst z; rw [q] at g; cases g; exact hj rfl
  have ne' : ∀ c j, G c = .tmp j → c ≠ a := fun c j q z => by subst z; rw [q] at g; cases g
  refine ⟨_, x, gr, e.ns, e.nt, bg, fh, by rw [List.length_set]; exact e.ln, fun j s hs => ?_, fun j v' r' h => (e.tm j v' r' h).mono x fun c vs g' q => ⟨by rw [updG_ne (ne' c j g')]; exact g', q⟩⟩
  by_cases hj : j = i
  · subst hj
    have hl : j < ρ.length := (List.getElem?_eq_some_iff.mp h).1
    rw [List.getElem?_set_self hl] at hs
    cases hs
    exact ⟨_, ea, .lst updG_same ha (rl.mono x)⟩
  · rw [List.getElem?_set_ne (Ne.symm hj)] at hs
    exact (e.sl j s hs).mono x fun c vs g' q => ⟨by rw [updG_ne (ne c j hj g')]; exact g', q⟩
/-- what is held is given to a name -/
def svOf : RV → SV
  | .val d => .val d
  | .new l => .own l
  | .newD t m => .ownD t m
theorem EnvOk.assign (e : EnvOk K G0 H0 G H σ ρ n (τ ++ [(v, r)])) (hi : i < ρ.length) : ∃ G', EnvOk K G0 H0 G' H (σ.set i (some v)) (ρ.set i (svOf r)) n τ := by
  have hi' : i < σ.length := by rw [← e.ln]; exact hi
  cases r with
  | val d =>
    refine ⟨G, e.gr, e.ns, e.nt, e.bg, e.fh, by rw [List.length_set, List.length_set]; exact e.ln, fun j s hs => ?_, e.pop.tm⟩
    by_cases hj : j = i
    · subst hj
      rw [List.getElem?_set_self hi] at hs
      cases hs
      exact ⟨v, by rw [List.getElem?_set_self hi'], e.topV⟩
    · rw [List.getElem?_set_ne (Ne.symm hj)] at hs ⊢
      exact e.sl j s hs
  | new l =>
    obtain ⟨a, vs, rfl, g, ha, rl⟩ := e.top
    obtain ⟨gr, x, bg, fh⟩ := e.retag ha (.inr ⟨_, g⟩) (.slot i) (by simp)
    have ne : ∀ c j, G c = .slot j → c ≠ a := fun c j q z => by subst z; rw [q] at g; cases g
    have ne' : ∀ c j, j ≠ τ.length → G c = .tmp j → c ≠ a := fun c j hj q z => by subst z; rw [q] at g; cases g; exact hj rfl
    refine ⟨_, gr, e.ns, e.nt, bg, fh, by rw [List.length_set, List.length_set]; exact e.ln, fun j s hs => ?_, fun j v' r' h => ?_⟩
    · by_cases hj : j = i
      · subst hj
        rw [List.getElem?_set_self hi] at hs
        cases hs
        exact ⟨a, vs, by rw [List.getElem?_set_self hi'], updG_same, ha, rl.mono x⟩
      · rw [List.getElem?_set_ne (Ne.symm hj)] at hs ⊢
        exact (e.sl j s hs).mono x fun c vs g' q => ⟨by rw [updG_ne (ne c j g')]; exact g', q⟩
    · have hj : j < τ.length := (List.getElem?_eq_some_iff.mp h).1
      exact (e.pop.tm j v' r' h).mono x fun c vs g' q => ⟨by rw [updG_ne (ne' c j (by omega) g')]; exact g', q⟩
  | newD t l =>
    obtain ⟨a, vs, rfl, g, ha, rl⟩ := e.top
    obtain ⟨gr, x, bg, fh⟩ := e.retag ha (.inr ⟨_, g⟩) (.slot i) (by simp)
    have ne : ∀ c j, G c = .slot j → c ≠ a := fun c j q z => by subst z; rw [q] at g; cases g
    have ne' : ∀ c j, j ≠ τ.length → G c = .tmp j → c ≠ a := fun c j hj q z => by subst z; rw [q] at g; cases g; exact hj rfl
    refine ⟨_, gr, e.ns, e.nt, bg, fh, by rw [List.length_set, List.length_set]; exact e.ln, fun j s hs => ?_, fun j v' r' h => ?_⟩
    · by_cases hj : j = i
      · subst hj
        rw [List.getElem?_set_self hi] at hs
        cases hs
        exact ⟨a, vs, by rw [List.getElem?_set_self hi'], updG_same, ha, rl.mono x⟩
      · rw [List.getElem?_set_ne (Ne.symm hj)] at hs ⊢
        exact (e.sl j s hs).mono x fun c vs g' q => ⟨by rw [updG_ne (ne c j g')]; exact g', q⟩
    · have hj : j < τ.length := (List.getElem?_eq_some_iff.mp h).1
      exact (e.pop.tm j v' r' h).mono x fun c vs g' q => ⟨by rw [updG_ne (ne' c j (by omega) g')]; exact g', q⟩
/-- a name's own list is changed -/
theorem EnvOk.mutate {vs ws : List V} {l' : List D} (e : EnvOk K G0 H0 G H σ ρ n τ) (h : ρ[i]? = some (.own l)) (ea : σ[i]? = some (some (.ref a))) (g : G a = .slot i) (ha : H a = some (.lst vs)) (rl : RepL K G H ws l') :
    Ext G H G (upd H a (.lst ws)) ∧ EnvOk K G0 H0 G (upd H a (.lst ws)) σ (ρ.set i (.own l')) n τ := by
  have h0 := e.notIn (.inl ⟨i, g⟩)
  have x : Ext G H G (upd H a (.lst ws)) := by
    refine ⟨fun c q => ⟨q, fun u z => ?_⟩, fun c xs q => ?_, fun c ob u q => ?_, fun _ _ q => q⟩
    · rw [upd_ne (fun y => by subst y; rw [q] at g; cases g)]; exact z
    · rw [upd_ne (ne_of q ha (by simp))]; exact q
    · rw [upd_ne (ne_of q ha (by simp))]; exact q
  refine ⟨x, ⟨fun c u q h1 h2 => ?_, e.gr.bagd, e.gr.bagl, fun c xs q => x.tup c xs (e.gr.tup c xs q), fun c ob u q => x.frz c ob u (e.gr.frz c ob u q)⟩, e.ns, e.nt, fun c b q => ?_, fun c q => ?_, by rw [List.length_set]; exact e.ln, fun j s hs => ?_, fun j v' r' hh => (e.tm j v' r' hh).mono x fun c vs g' q => ⟨g', ?_⟩⟩
  · have hc : c ≠ a := fun z => by subst z; rw [h0] at q; cases q
    rw [upd_ne hc]; exact e.gr.keep c u q h1 h2
  · obtain ⟨gb, far, s, t, hc, hb, z⟩ := e.bg c b q
    refine ⟨gb, far, s, t, by rw [upd_ne (ne_of hc ha (by simp))]; exact hc, by rw [upd_ne (fun y => by subst y; rw [gb] at g; cases g)]; exact hb, z⟩
  · by_cases hc : c = a
    · subst hc; rw [upd_same] at q; cases q
    · rw [upd_ne hc] at q; exact e.fh c q
  · by_cases hj : j = i
    · subst hj
      have hl : j < ρ.length := (List.getElem?_eq_some_iff.mp h).1
      rw [List.getElem?_set_self hl] at hs
      cases hs
      exact ⟨a, ws, ea, g, upd_same, rl.mono x⟩
    · rw [List.getElem?_set_ne (Ne.symm hj)] at hs
      refine (e.sl j s hs).mono x fun c vs g' q => ⟨g', ?_⟩
      rw [upd_ne (fun y => by subst y; rw [g] at g'; cases g'; exact hj rfl)]; exact q
  · rw [upd_ne (fun y => by subst y; rw [g] at g'; cases g')]; exact q
/-- the j-th value on the way is given to a name -/
theorem EnvOk.assignAt (e : EnvOk K G0 H0 G H σ ρ n τ) (hj : τ[j]? = some (v, r)) : ∃ G', EnvOk K G0 H0 G' H (σ.set i (some v)) (ρ.set i (svOf r)) n (τ.set j (.non, .val .non)) := by
  have hjl : j < τ.length := (List.getElem?_eq_some_iff.mp hj).1
  by_cases hi : i < ρ.length
  · have hi' : i < σ.length := by rw [← e.ln]; exact hi
    cases r with
    | val d =>
      refine ⟨G, e.gr, e.ns, e.nt, e.bg, e.fh, by rw [List.length_set, List.length_set]; exact e.ln, fun m s hs => ?_, fun m v' r' h => ?_⟩
      · by_cases hm : m = i
        · subst hm
          rw [List.getElem?_set_self hi] at hs
          cases hs
          exact ⟨v, by rw [List.getElem?_set_self hi'], e.tm j v (.val d) hj⟩
        · rw [List.getElem?_set_ne (Ne.symm hm)] at hs ⊢
          exact e.sl m s hs
      · by_cases hm : m = j
        · subst hm; rw [List.getElem?_set_self hjl] at h; cases h; exact Rep.non
        · rw [List.getElem?_set_ne (Ne.symm hm)] at h; exact e.tm m v' r' h
    | new l =>
      obtain ⟨a, vs, rfl, g, ha, rl⟩ := e.tm j v (.new l) hj
      obtain ⟨gr, x, bg, fh⟩ := e.retag ha (.inr ⟨_, g⟩) (.slot i) (by simp)
      have ne : ∀ c m, G c = .slot m → c ≠ a := fun c m q z => by subst z; rw [q] at g; cases g
      have ne' : ∀ c m, m ≠ j → G c = .tmp m → c ≠ a := fun c m hm q z => by subst z; rw [q] at g; cases g; exact hm rfl
      refine ⟨_, gr, e.ns, e.nt, bg, fh, by rw [List.length_set, List.length_set]; exact e.ln, fun m s hs => ?_, fun m v' r' h => ?_⟩
      · by_cases hm : m = i
        · subst hm
          rw [List.getElem?_set_self hi] at hs
          cases hs
          exact ⟨a, vs, by rw [List.getElem?_set_self hi'], updG_same, ha, rl.mono x⟩
        · rw [List.getElem?_set_ne (Ne.symm hm)] at hs ⊢
          exact (e.sl m s hs).mono x fun c vs g' q => ⟨by rw [updG_ne (ne c m g')]; exact g', q⟩
      · by_cases hm : m = j
        · subst hm; rw [List.getElem?_set_self hjl] at h; cases h; exact Rep.non
        · rw [List.getElem?_set_ne (Ne.symm hm)] at h
          exact (e.tm m v' r' h).mono x fun c vs g' q => ⟨by rw [updG_ne (ne' c m hm g')]; exact g', q⟩
    | newD t l =>
      obtain ⟨a, vs, rfl, g, ha, rl⟩ := e.tm j v (.newD t l) hj
      obtain ⟨gr, x, bg, fh⟩ := e.retag ha (.inr ⟨_, g⟩) (.slot i) (by simp)
      have ne : ∀ c m, G c = .slot m → c ≠ a := fun c m q z => by subst z; rw [q] at g; cases g
      have ne' : ∀ c m, m ≠ j → G c = .tmp m → c ≠ a := fun c m hm q z => by subst z; rw [q] at g; cases g; exact hm rfl
      refine ⟨_, gr, e.ns, e.nt, bg, fh, by rw [List.length_set, List.length_set]; exact e.ln, fun m s hs => ?_, fun m v' r' h => ?_⟩
      · by_cases hm : m = i
        · subst hm
          rw [List.getElem?_set_self hi] at hs
          cases hs
          exact ⟨a, vs, by rw [List.getElem?_set_self hi'], updG_same, ha, rl.mono x⟩
        · rw [List.getElem?_set_ne (Ne.symm hm)] at hs ⊢
          exact (e.sl m s hs).mono x fun c vs g' q => ⟨by rw [updG_ne (ne c m g')]; exact g', q⟩
      · by_cases hm : m = j
        · subst hm; rw [List.getElem?_set_self hjl] at h; cases h; exact Rep.non
        · rw [List.getElem?_set_ne (Ne.symm hm)] at h
          exact (e.tm m v' r' h).mono x fun c vs g' q => ⟨by rw [updG_ne (ne' c m hm g')]; exact g', q⟩
  · have h1 : ρ.set i (svOf r) = ρ := List.set_eq_of_length_le (by omega)
    have h2 : σ.set i (some v) = σ := List.set_eq_of_length_le (by rw [← e.ln]; omega)
    rw [h1, h2]
    refine ⟨G, e.gr, e.ns, e.nt, e.bg, e.fh, e.ln, e.sl, fun m v' r' h => ?_⟩
    by_cases hm : m = j
    · subst hm; rw [List.getElem?_set_self hjl] at h; cases h; exact Rep.non
    · rw [List.getElem?_set_ne (Ne.symm hm)] at h; exact e.tm m v' r' h
theorem EnvOk.assign' (e : EnvOk K G0 H0 G H σ ρ n (τ ++ [(v, r)])) : ∃ G', EnvOk K G0 H0 G' H (σ.set i (some v)) (ρ.set i (svOf r)) n τ := by
  obtain ⟨G', e'⟩ := e.assignAt (j := τ.length) (i := i) (v := v) (r := r) (by simp)
  rw [List.set_append_right _ _ (Nat.le_refl _)] at e'
  exact ⟨G', e'.pop⟩
/-- what stands in the middle is dropped -/
theorem EnvOk.mid {τ' : List (V × RV)} (e : EnvOk K G0 H0 G H σ ρ n (τ ++ τ' ++ [(v, r)])) : ∃ G', EnvOk K G0 H0 G' H σ ρ n (τ ++ [(v, r)]) := by
  cases r with
  | val d => exact ⟨G, e.pop.pop.pushV e.topV⟩
  | new l =>
    obtain ⟨a, vs, rfl, g, ha, rl⟩ := e.top
    obtain ⟨gr, x, bg, fh⟩ := e.retag ha (.inr ⟨_, g⟩) (.tmp τ.length) (by simp)
    have ne : ∀ c m, G c = .slot m → c ≠ a := fun c m q z => by subst z; rw [q] at g; cases g
    have ne' : ∀ c m, m ≠ (τ ++ τ').length → G c = .tmp m → c ≠ a := fun c m hm q z => by subst z; rw [q] at g; cases g; exact hm rfl
    refine ⟨_, EnvOk.push ⟨gr, e.ns, e.nt, bg, fh, e.ln, fun m s hs => (e.sl m s hs).mono x fun c vs g' q => ⟨by rw [updG_ne (ne c m g')]; exact g', q⟩, fun m v' r' h => ?_⟩ ⟨a, vs, rfl, updG_same, ha, rl.mono x⟩⟩
    have hm : m < τ.length := (List.getElem?_eq_some_iff.mp h).1
    exact (e.pop.pop.tm m v' r' h).mono x fun c vs g' q => ⟨by rw [updG_ne (ne' c m (by rw [List.length_append]; omega) g')]; exact g', q⟩
  | newD t l =>
    obtain ⟨a, vs, rfl, g, ha, rl⟩ := e.top
    obtain ⟨gr, x, bg, fh⟩ := e.retag ha (.inr ⟨_, g⟩) (.tmp τ.length) (by simp)
    have ne : ∀ c m, G c = .slot m → c ≠ a := fun c m q z => by subst z; rw [q] at g; cases g
    have ne' : ∀ c m, m ≠ (τ ++ τ').length → G c = .tmp m → c ≠ a := fun c m hm q z => by subst z; rw [q] at g; cases g; exact hm rfl
    refine ⟨_, EnvOk.push ⟨gr, e.ns, e.nt, bg, fh, e.ln, fun m s hs => (e.sl m s hs).mono x fun c vs g' q => ⟨by rw [updG_ne (ne c m g')]; exact g', q⟩, fun m v' r' h => ?_⟩ ⟨a, vs, rfl, updG_same, ha, rl.mono x⟩⟩
    have hm : m < τ.length := (List.getElem?_eq_some_iff.mp h).1
    exact (e.pop.pop.tm m v' r' h).mono x fun c vs g' q => ⟨by rw [updG_ne (ne' c m (by rw [List.length_append]; omega) g')]; exact g', q⟩
/-- the new list on top grows -/
theorem EnvOk.grow {vs : List V} {y : V} {dy : D} (e : EnvOk K G0 H0 G H σ ρ n (τ ++ [(.ref a, .new l)])) (ha : H a = some (.lst vs)) (hy : Rep K G H y dy) :
    EnvOk K G0 H0 G (upd H a (.lst (vs ++ [y]))) σ ρ n (τ ++ [(.ref a, .new (l ++ [dy]))]) := by
  obtain ⟨a', vs', ea, g, ha', rl⟩ := e.top
  cases ea
  rw [ha] at ha'
  cases ha'
  have h0 := e.notIn (.inr ⟨_, g⟩)
  have x : Ext G H G (upd H a (.lst (vs ++ [y]))) := by
    refine ⟨fun c q => ⟨q, fun u z => ?_⟩, fun c xs q => ?_, fun c ob u q => ?_, fun _ _ q => q⟩
    · rw [upd_ne (fun y => by subst y; rw [q] at g; cases g)]; exact z
    · rw [upd_ne (ne_of q ha (by simp))]; exact q
    · rw [upd_ne (ne_of q ha (by simp))]; exact q
  refine EnvOk.push ⟨⟨fun c u q h1 h2 => ?_, e.gr.bagd, e.gr.bagl, fun c xs q => x.tup c xs (e.gr.tup c xs q), fun c ob u q => x.frz c ob u (e.gr.frz c ob u q)⟩, e.ns, e.nt, fun c b q => ?_, fun c q => ?_, e.ln, fun m s hs => (e.sl m s hs).mono x fun c vs g' q => ⟨g', ?_⟩, fun m v' r' h => ?_⟩ ⟨a, _, rfl, g, upd_same, (rl.append (.cons hy .nil)).mono x⟩
  · have hc : c ≠ a := fun z => by subst z; rw [h0] at q; cases q
    rw [upd_ne hc]; exact e.gr.keep c u q h1 h2
  · obtain ⟨gb, far, s, t, hc, hb, z⟩ := e.bg c b q
    exact ⟨gb, far, s, t, by rw [upd_ne (ne_of hc ha (by simp))]; exact hc, by rw [upd_ne (fun y => by subst y; rw [gb] at g; cases g)]; exact hb, z⟩
  · by_cases hc : c = a
    · subst hc; rw [upd_same] at q; cases q
    · rw [upd_ne hc] at q; exact e.fh c q
  · rw [upd_ne (fun y => by subst y; rw [g] at g'; cases g')]; exact q
  · have hm : m < τ.length := (List.getElem?_eq_some_iff.mp h).1
    refine (e.pop.tm m v' r' h).mono x fun c vs g' q => ⟨g', ?_⟩
    rw [upd_ne (fun y => by subst y; rw [g] at g'; cases g'; omega)]; exact q
end
end Ly

namespace Ly
open PySem PySem.Spec PyProof.Rows L2

abbrev KE := RV → List SV → Nat → Prop
abbrev TD := List SV → Nat → KE → Prop
abbrev TDT := List SV → Nat → (Bool → List SV → Nat → Prop) → Prop
abbrev TDA := List SV → Nat → (List RV → List SV → Nat → Prop) → Prop
structure DEnds where
  nx : List SV → Nat → Prop
  rt : D → Nat → Prop
  bk : List SV → Nat → Prop := fun _ _ => False
  ct : List SV → Nat → Prop := fun _ _ => False
abbrev TDS := DEnds → List SV → Nat → Prop
abbrev Bs := Gh × Hp

def tD (K : PySem.W.Frag) (B : Bs) (w : TD) : TE := fun σ H Q => ∃ G ρ n τ Q', EnvOk K B.1 B.2 G H σ ρ n τ ∧ w ρ n Q' ∧
  ∀ r ρ' n' v G' H', Q' r ρ' n' → EnvOk K B.1 B.2 G' H' σ ρ' n' (τ ++ [(v, r)]) → Q v H'
def tDT (K : PySem.W.Frag) (B : Bs) (w : TDT) : TT := fun σ H Q => ∃ G ρ n τ Q', EnvOk K B.1 B.2 G H σ ρ n τ ∧ w ρ n Q' ∧
  ∀ b ρ' n' G' H', Q' b ρ' n' → EnvOk K B.1 B.2 G' H' σ ρ' n' τ → Q b H'
def tDA (K : PySem.W.Frag) (B : Bs) (w : TDA) : TA := fun σ H Q => ∃ G ρ n τ Q', EnvOk K B.1 B.2 G H σ ρ n τ ∧ w ρ n Q' ∧
  ∀ rs ρ' n' vs G' H', Q' rs ρ' n' → vs.length = rs.length → EnvOk K B.1 B.2 G' H' σ ρ' n' (τ ++ vs.zip rs) → Q vs H'
def tDS (K : PySem.W.Frag) (B : Bs) (w : TDS) : TS := fun D σ H => ∃ G ρ n τ D', EnvOk K B.1 B.2 G H σ ρ n τ ∧ w D' ρ n ∧
  (∀ σ' ρ' n' G' H', D'.nx ρ' n' → EnvOk K B.1 B.2 G' H' σ' ρ' n' τ → D.nx σ' H') ∧
  (∀ d n' v G' H' σ' ρ', D'.rt d n' → Rep K G' H' v d → EnvOk K B.1 B.2 G' H' σ' ρ' n' τ → D.rt v H') ∧
  (∀ σ' ρ' n' G' H', D'.bk ρ' n' → EnvOk K B.1 B.2 G' H' σ' ρ' n' τ → D.bk σ' H') ∧
  (∀ σ' ρ' n' G' H', D'.ct ρ' n' → EnvOk K B.1 B.2 G' H' σ' ρ' n' τ → D.ct σ' H')
abbrev DE (X : Cx) (B : Bs) (e : Expr) (w : TD) : Prop := PE X e (tD X.K B w)
abbrev DT (X : Cx) (B : Bs) (e : Expr) (w : TDT) : Prop := PT X e (tDT X.K B w)
abbrev DA (X : Cx) (B : Bs) (es : List Expr) (w : TDA) : Prop := PA X es (tDA X.K B w)
abbrev DS (X : Cx) (B : Bs) (st : Stmt) (w : TDS) : Prop := PS X st (tDS X.K B w)
abbrev DSs (X : Cx) (B : Bs) (st : List Stmt) (w : TDS) : Prop := PSs X st (tDS X.K B w)

theorem PE.imp {X : Cx} {e : Expr} {t t' : TE} (h : PE X e t) (i : ∀ σ H Q, t' σ H Q → t σ H Q) : PE X e t' := ⟨fun pins s σ H Q I q => h.run pins s σ H Q I (i _ _ _ q)⟩
theorem PT.imp {X : Cx} {e : Expr} {t t' : TT} (h : PT X e t) (i : ∀ σ H Q, t' σ H Q → t σ H Q) : PT X e t' := ⟨fun pins s σ H Q I q => h.run pins s σ H Q I (i _ _ _ q)⟩
theorem PW.imp {X : Cx} {e : Expr} {t t' : TT} (h : PW X e t) (i : ∀ σ H Q, t' σ H Q → t σ H Q) : PW X e t' := ⟨fun wh pins s σ H Q I q => h.run wh pins s σ H Q I (i _ _ _ q)⟩
theorem PA.imp {X : Cx} {e : List Expr} {t t' : TA} (h : PA X e t) (i : ∀ σ H Q, t' σ H Q → t σ H Q) : PA X e t' := ⟨fun pos pins s σ H Q I q => h.run pos pins s σ H Q I (i _ _ _ q)⟩
theorem PS.imp {X : Cx} {e : Stmt} {t t' : TS} (h : PS X e t) (i : ∀ D σ H, t' D σ H → t D σ H) : PS X e t' := ⟨fun pins s σ H Q I q => h.run pins s σ H Q I (i _ _ _ q)⟩
theorem PSs.imp {X : Cx} {e : List Stmt} {t t' : TS} (h : PSs X e t) (i : ∀ D σ H, t' D σ H → t D σ H) : PSs X e t' := ⟨fun pins s σ H Q I q => h.run pins s σ H Q I (i _ _ _ q)⟩

section
variable {X : Cx} {B : Bs} {a b c e : Expr} {es : List Expr} {pos : Pos} {wa wb wc : TD} {ws : TDA} {wt : TDT}

/-! ### constants, names -/
def wC (d : D) : TD := fun ρ n Q => Q (.val d) ρ n
theorem de_of {v : V} {d : D} (h : PE X e (tC v)) (r : ∀ G H, Rep X.K G H v d) : DE X B e (wC d) :=
  PE.imp h fun σ H Q ⟨G, ρ, n, τ, Q', e, hw, k⟩ => k _ _ _ _ _ _ hw (e.push (r G H))
theorem de_int {i j pos} : DE X B (.Constant (.int i) j pos) (wC (.int i)) := de_of pe_int fun _ _ => .int i
theorem de_str {i j pos} : DE X B (.Constant (.str i) j pos) (wC (.str i)) := de_of pe_str fun _ _ => .str i
theorem de_bl {i j pos} : DE X B (.Constant (.bool i) j pos) (wC (.bl i)) := de_of pe_bl fun _ _ => .bl i
theorem de_non {j pos} : DE X B (.Constant .none j pos) (wC .non) := de_of pe_non fun _ _ => .non
theorem de_glob {x : Str} {i : Int} {t : Tok} {pos : Pos} (hg : Gl X x) (hm : X.mg x = some (.int i t)) (hd : (x == ("__debug__" : Str)) = false) : DE X B (.Name x pos) (wC (.int i)) :=
  de_of (v := .int i) (pe_glob hg hm ⟨t, rfl⟩ hd) fun _ _ => .int i
def wV (i : Nat) : TD := fun ρ n Q => match ρ[i]? with
  | some (.val d) => Q (.val d) ρ n
  | some (.own l) => Q (.val (.lst l)) (ρ.set i (.val (.lst l))) n
  | _ => False
theorem de_var {i : Nat} {x : Str} {pos : Pos} (h : PE X (.Name x pos) (tVar i)) : DE X B (.Name x pos) (wV i) :=
  PE.imp h fun σ H Q ⟨G, ρ, n, τ, Q', e, hw, k⟩ => by
    unfold wV at hw
    split at hw
    · rename_i d hd
      obtain ⟨v, ev, rv⟩ := e.sl i _ hd
      exact ⟨v, ev, k _ _ _ _ _ _ hw (e.push rv)⟩
    · rename_i l hl
      obtain ⟨a, vs, ea, _⟩ := e.sl i _ hl
      obtain ⟨G', x, e'⟩ := e.freezeS hl
      refine ⟨_, ea, k _ _ _ _ _ _ hw (e'.push ?_)⟩
      obtain ⟨v, ev, rv⟩ := e'.sl i (.val (.lst l)) (by rw [List.getElem?_set_self (List.getElem?_eq_some_iff.mp hl).1])
      rw [ea] at ev; cases ev
      exact rv
    · exact hw.elim

/-! ### arguments -/
def wNil : TDA := fun ρ n Q => Q [] ρ n
def wCons (w : TD) (ws : TDA) : TDA := fun ρ n Q => w ρ n fun r ρ1 n1 => ws ρ1 n1 fun rs ρ2 n2 => Q (r :: rs) ρ2 n2
theorem da_nil : DA X B [] wNil := PA.imp pa_nil fun σ H Q ⟨G, ρ, n, τ, Q', e, hw, k⟩ => k _ _ _ [] _ _ hw rfl (by simpa using e)
theorem da_cons (ha : DE X B e wa) (hr : DA X B es ws) (hs : starEach (e :: es) X.env = (false, eval e X.env) :: starEach es X.env := by rfl) : DA X B (e :: es) (wCons wa ws) :=
  PA.imp (pa_cons ha hr hs) fun σ H Q ⟨G, ρ, n, τ, Q', e, hw, k⟩ =>
    ⟨G, ρ, n, τ, _, e, hw, fun r ρ' n' v G' H' h1 e1 => ⟨G', ρ', n', τ ++ [(v, r)], _, e1, h1, fun rs ρ2 n2 vs G2 H2 h2 hl e2 => k _ _ _ (v :: vs) _ _ h2 (by rw [List.length_cons, List.length_cons, hl]) (by
      rw [List.zip_cons_cons, List.append_cons]; exact e2)⟩⟩
end
def dOf : RV → D
  | .val d => d
  | .new l => .lst l
  | .newD _ _ => .dct
theorem frz_val (r : RV) : frz r = .val (dOf r) := by cases r <;> rfl
section
variable {K : PySem.W.Frag} {G0 G : Gh} {H0 H : Hp} {σ : L2.St} {ρ : List SV} {n : Nat} {τ : List (V × RV)}
theorem EnvOk.freezeAll : ∀ (rs : List RV) (vs : List V) (τ : List (V × RV)) (G : Gh), vs.length = rs.length → EnvOk K G0 H0 G H σ ρ n (τ ++ vs.zip rs) → ∃ G', Ext G H G' H ∧ EnvOk K G0 H0 G' H σ ρ n τ ∧ RepL K G' H vs (rs.map dOf)
  | [], [], τ, G, _, e => ⟨G, .refl, e.pop, .nil⟩
  | [], _ :: _, _, _, h, _ => by simp at h
  | _ :: _, [], _, _, h, _ => by simp at h
  | r :: rs, v :: vs, τ, G, h, e => by
    rw [List.zip_cons_cons, List.append_cons] at e
    obtain ⟨G1, x1, e1, r1⟩ := EnvOk.freezeAll rs vs (τ ++ [(v, r)]) G (by simpa using h) e
    obtain ⟨G2, x2, e2⟩ := e1.freeze
    rw [frz_val] at e2
    exact ⟨G2, x1.trans x2, e2.pop, .cons e2.topV (r1.mono x2)⟩
end
section
variable {X : Cx} {B : Bs} {a b c e : Expr} {es : List Expr} {pos : Pos} {wa wb wc : TD} {ws : TDA} {wt : TDT}
/-! ### tuples, lists -/
def wTup (ws : TDA) : TD := fun ρ n Q => ws ρ n fun rs ρ1 n1 => rs.length ≤ sizeLine ∧ Q (.val (.tup (rs.map dOf))) ρ1 n1
def wLst (ws : TDA) : TD := fun ρ n Q => ws ρ n fun rs ρ1 n1 => rs.length ≤ sizeLine ∧ Q (.new (rs.map dOf)) ρ1 n1
theorem de_tup {x1} (h : DA X B es ws) : DE X B (.Tuple es x1 pos) (wTup ws) :=
  PE.imp (pe_tup h) fun σ H Q ⟨G, ρ, n, τ, Q', e, hw, k⟩ => ⟨G, ρ, n, τ, _, e, hw, fun rs ρ' n' vs G' H' h1 hl e1 => by
    obtain ⟨G2, x2, e2, rl⟩ := EnvOk.freezeAll rs vs τ G' hl e1
    exact ⟨by rw [hl]; exact h1.1, fun p hp => k _ _ _ _ _ _ h1.2 ((e2.alloc hp (.tup vs) .free (by simp)).push (.tup upd_same (rl.mono (Ext.alloc e2 hp))))⟩⟩
theorem EnvOk.pushNew {K : PySem.W.Frag} {G0 G : Gh} {H0 H : Hp} {σ : L2.St} {ρ : List SV} {n : Nat} {τ : List (V × RV)} {p : Addr} {vs : List V} {ds : List D} (e : EnvOk K G0 H0 G H σ ρ n τ) (hp : H p = none) (rl : RepL K G H vs ds) :
    EnvOk K G0 H0 (updG G p (.tmp τ.length)) (upd H p (.lst vs)) σ ρ n (τ ++ [(.ref p, .new ds)]) :=
  (e.alloc hp (.lst vs) (.tmp τ.length) (by simp)).push ⟨p, vs, rfl, updG_same, upd_same, rl.mono (Ext.alloc e hp)⟩
theorem EnvOk.pushTup {K : PySem.W.Frag} {G0 G : Gh} {H0 H : Hp} {σ : L2.St} {ρ : List SV} {n : Nat} {τ : List (V × RV)} {p : Addr} {vs : List V} {ds : List D} (e : EnvOk K G0 H0 G H σ ρ n τ) (hp : H p = none) (rl : RepL K G H vs ds) :
    EnvOk K G0 H0 (updG G p .free) (upd H p (.tup vs)) σ ρ n (τ ++ [(.ref p, .val (.tup ds))]) :=
  (e.alloc hp (.tup vs) .free (by simp)).push (.tup upd_same (rl.mono (Ext.alloc e hp)))
theorem de_lst (h : DA X B es ws) : DE X B (.List es pos) (wLst ws) :=
  PE.imp (pe_lst h) fun σ H Q ⟨G, ρ, n, τ, Q', e, hw, k⟩ => ⟨G, ρ, n, τ, _, e, hw, fun rs ρ' n' vs G' H' h1 hl e1 => by
    obtain ⟨G2, x2, e2, rl⟩ := EnvOk.freezeAll rs vs τ G' hl e1
    exact ⟨by rw [hl]; exact h1.1, fun p hp => k _ _ _ _ _ _ h1.2 (e2.pushNew hp rl)⟩⟩

/-! ### operators: by a rule over values, and what it is over data -/
abbrev G2 := RV → RV → (RV → Prop) → Prop
def SndO (K : PySem.W.Frag) (B : Bs) (g : G2) (r2 : R2) : Prop := ∀ (G : Gh) (H : Hp) (σ : L2.St) (ρ : List SV) (n : Nat) (τ : List (V × RV)) (v1 v2 : V) (r1 r2' : RV) (R : RV → Prop) (Q : VK),
  EnvOk K B.1 B.2 G H σ ρ n (τ ++ [(v1, r1)] ++ [(v2, r2')]) → g r1 r2' R → (∀ r v G' H', R r → EnvOk K B.1 B.2 G' H' σ ρ n (τ ++ [(v, r)]) → Q v H') → r2 v1 v2 H Q
def wOp (g : G2) (wa wb : TD) : TD := fun ρ n Q => wa ρ n fun r1 ρ1 n1 => wb ρ1 n1 fun r2 ρ2 n2 => g r1 r2 fun r => Q r ρ2 n2
theorem tOp_of {K : PySem.W.Frag} {g : G2} {r : R2} (s : SndO K B g r) {σ : L2.St} {H : Hp} {Q : VK} (h : tD K B (wOp g wa wb) σ H Q) : tOp r (tD K B wa) (tD K B wb) σ H Q := by
  obtain ⟨G, ρ, n, τ, Q', e, hw, k⟩ := h
  exact ⟨G, ρ, n, τ, _, e, hw, fun r1 ρ1 n1 v1 G1 H1 h1 e1 => ⟨G1, ρ1, n1, _, _, e1, h1, fun r2 ρ2 n2 v2 G2 H2 h2 e2 => s _ _ _ _ _ _ _ _ _ _ _ _ e2 h2 fun r v G' H' hR e3 => k _ _ _ _ _ _ hR e3⟩⟩
theorem de_op {op : Operator} {r : R2} {g : G2} (s : SndO X.K B g r) (ho : OpR X (binaryOp op) r) (ha : DE X B a wa) (hb : DE X B b wb) : DE X B (.BinOp a op b pos) (wOp g wa wb) :=
  PE.imp (pe_op ho ha hb) fun _ _ _ h => tOp_of s h
theorem de_cmp {op : CmpOp} {r : R2} {g : G2} (s : SndO X.K B g r) (ho : OpR X (compareOp op) r) (ha : DE X B a wa) (hb : DE X B b wb) (hm : behindInMarks op b = false) : DE X B (.Compare a [op] [b] pos) (wOp g wa wb) :=
  PE.imp (pe_cmpR ho ha hb hm) fun _ _ _ h => tOp_of s h
/-- a value that is a truth value, as a test -/
def wTst (w : TD) : TDT := fun ρ n Q => w ρ n fun r ρ1 n1 => ∃ b, r = .val (.bl b) ∧ Q b ρ1 n1
theorem tTest_of {K : PySem.W.Frag} {t : TE} {w : TD} (i : ∀ σ H Q, tD K B w σ H Q → t σ H Q) {σ : L2.St} {H : Hp} {Q : Bool → Hp → Prop} (h : tDT K B (wTst w) σ H Q) : tTest t σ H Q := by
  obtain ⟨G, ρ, n, τ, Q', e, hw, k⟩ := h
  refine i _ _ _ ⟨G, ρ, n, τ, _, e, hw, fun r ρ' n' v G' H' ⟨b, hb, h1⟩ e1 => ?_⟩
  subst hb
  have := e1.topV
  cases this
  exact ⟨b, rfl, k _ _ _ _ _ h1 e1.pop⟩
theorem dt_cmp {op : CmpOp} {r : R2} {g : G2} (s : SndO X.K B g r) (ho : OpR X (compareOp op) r) (ha : DE X B a wa) (hb : DE X B b wb) (hm : behindInMarks op b = false) : DT X B (.Compare a [op] [b] pos) (wTst (wOp g wa wb)) :=
  PT.imp (pt_cmpR ho ha hb hm) fun _ _ _ h => tTest_of (fun _ _ _ h => tOp_of s h) h
theorem dt_val (h : DE X B e wa) (he : ∀ whole, isTrue e X.env whole = (do let v ← whole; standAt e.pos; holding [v] (truthy v)) := by intro _; rfl) : DT X B e (wTst wa) :=
  PT.imp (pt_val h he) fun _ _ _ h => tTest_of (fun _ _ _ h => h) h
/-- a chain of two comparisons -/
def wChain (g g' : G2) (wa wb wc : TD) : TD := fun ρ n Q => wa ρ n fun r1 ρ1 n1 => wb ρ1 n1 fun r2 ρ2 n2 => ∃ j, r2 = .val (.int j) ∧ g r1 r2 fun z => ∃ k, z = .val (.bl k) ∧
  if k = true then wc ρ2 n2 fun r3 ρ3 n3 => g' r2 r3 fun r => Q r ρ3 n3 else Q (.val (.bl false)) ρ2 n2
theorem tChain_of {K : PySem.W.Frag} {r r' : R2} {g g' : G2} (s : SndO K B g r) (s' : SndO K B g' r') {σ : L2.St} {H : Hp} {Q : VK} (h : tD K B (wChain g g' wa wb wc) σ H Q) : tChain r r' (tD K B wa) (tD K B wb) (tD K B wc) σ H Q := by
  obtain ⟨G, ρ, n, τ, Q', e, hw, k⟩ := h
  exact ⟨G, ρ, n, τ, _, e, hw, fun r1 ρ1 n1 v1 G1 H1 h1 e1 => ⟨G1, ρ1, n1, _, _, e1, h1, fun r2 ρ2 n2 v2 G2 H2 h2 e2 => by
    obtain ⟨j, rfl, h2⟩ := h2
    have rep2 := e2.topV
    cases rep2
    refine s _ _ σ ρ2 n2 τ _ _ _ _ _ _ e2 h2 fun z v G' H' hz e3 => ?_
    obtain ⟨b, rfl, hz⟩ := hz
    have rep3 := e3.topV
    cases rep3
    refine ⟨b, rfl, ?_⟩
    cases b with
    | false => exact iteF (k _ _ _ _ _ _ hz e3)
    | true =>
      refine iteT ⟨G', ρ2, n2, τ ++ [(.int j, .val (.int j))], _, e3.pop.pushV (.int j), hz, fun r3 ρ3 n3 v3 G4 H4 h3 e4 => ?_⟩
      exact s' _ _ σ ρ3 n3 τ _ _ _ _ _ _ e4 h3 fun r v G' H' hR e5 => k _ _ _ _ _ _ hR e5⟩⟩
theorem de_chain {op op' : CmpOp} {r r' : R2} {g g' : G2} (s : SndO X.K B g r) (s' : SndO X.K B g' r') (ho : OpR X (compareOp op) r) (ho' : OpR X (compareOp op') r') (ha : DE X B a wa) (hb : DE X B b wb) (hc : DE X B c wc)
    (hm : lastMarks [op, op'] [b, c] = false := by with_unfolding_all rfl) : DE X B (.Compare a [op, op'] [b, c] pos) (wChain g g' wa wb wc) :=
  PE.imp (pe_chain ho ho' ha hb hc hm) fun _ _ _ h => tChain_of s s' h
theorem dt_chain {op op' : CmpOp} {r r' : R2} {g g' : G2} (s : SndO X.K B g r) (s' : SndO X.K B g' r') (ho : OpR X (compareOp op) r) (ho' : OpR X (compareOp op') r') (ha : DE X B a wa) (hb : DE X B b wb) (hc : DE X B c wc)
    (hm : lastMarks [op, op'] [b, c] = false := by with_unfolding_all rfl) : DT X B (.Compare a [op, op'] [b, c] pos) (wTst (wChain g g' wa wb wc)) :=
  PT.imp (pt_chain ho ho' ha hb hc hm) fun _ _ _ h => tTest_of (fun _ _ _ h => tChain_of s s' h) h
end
end Ly

namespace Ly
open PySem PySem.Spec PyProof.Rows L2

def listOf : RV → Option (List D)
  | .val (.lst l) => some l
  | .new l => some l
  | _ => none
theorem tmp_list {K : PySem.W.Frag} {G : Gh} {H : Hp} {j : Nat} {v : V} {r : RV} {l : List D} (h : TmpOk K G H j v r) (e : listOf r = some l) : ∃ a vs, v = .ref a ∧ H a = some (.lst vs) ∧ RepL K G H vs l := by
  cases r with
  | new l' => cases e; obtain ⟨a, vs, e, g, q, rl⟩ := h; exact ⟨a, vs, e, q, rl⟩
  | newD t m => cases e
  | val d =>
    cases d with
    | lst l' => cases e; cases h with | lst g q rl => exact ⟨_, _, rfl, q, rl⟩
    | _ => cases e
/-- a sequence that is read: a tuple, a list -/
def seqOf : RV → Option (List D)
  | .val (.lst l) => some l
  | .val (.tup l) => some l
  | .new l => some l
  | _ => none
theorem tmp_seq {K : PySem.W.Frag} {G : Gh} {H : Hp} {j : Nat} {v : V} {r : RV} {l : List D} (h : TmpOk K G H j v r) (e : seqOf r = some l) : ∃ a vs, v = .ref a ∧ (SqL K H a vs ∨ SqT K H a vs) ∧ RepL K G H vs l := by
  cases r with
  | new l' => cases e; obtain ⟨a, vs, e, g, q, rl⟩ := h; exact ⟨a, vs, e, .inl (SqL.of q), rl⟩
  | newD t m => cases e
  | val d =>
    cases d with
    | lst l' => cases e; cases h with | lst g q rl => exact ⟨_, _, rfl, .inl (SqL.of q), rl⟩
    | tup l' => cases e; cases h with | tup q rl => exact ⟨_, _, rfl, .inr (SqT.of q), rl⟩
    | _ => cases e
theorem tmp_seqT {K : PySem.W.Frag} {G : Gh} {H : Hp} {j : Nat} {v : V} {r : RV} {l : List D} (h : TmpOk K G H j v r) (e : seqOf r = some l) : ∃ a vs, v = .ref a ∧ (SqL K H a vs ∨ H a = some (.tup vs)) ∧ RepL K G H vs l := by
  cases r with
  | new l' => cases e; obtain ⟨a, vs, e, g, q, rl⟩ := h; exact ⟨a, vs, e, .inl (SqL.of q), rl⟩
  | newD t m => cases e
  | val d =>
    cases d with
    | lst l' => cases e; cases h with | lst g q rl => exact ⟨_, _, rfl, .inl (SqL.of q), rl⟩
    | tup l' => cases e; cases h with | tup q rl => exact ⟨_, _, rfl, .inr q, rl⟩
    | _ => cases e
section
variable {X : Cx} {B : Bs} {a b c e : Expr} {es : List Expr} {pos : Pos} {wa wb wc : TD} {ws : TDA} {wt : TDT} {K : PySem.W.Frag}

/-! ### ints -/
def gI (C : Int → Int → Prop) (f : Int → Int → D) : G2 := fun r1 r2 R => ∃ i j, r1 = .val (.int i) ∧ r2 = .val (.int j) ∧ C i j ∧ R (.val (f i j))
def vD : V → D
  | .int i => .int i
  | .bl b => .bl b
  | _ => .non
theorem snd_rI {C : Int → Int → Prop} {f : Int → Int → V} {g : Int → Int → D} (hf : ∀ (G : Gh) (H : Hp) i j, Rep K G H (f i j) (g i j)) : SndO K B (gI C g) (rI C f) := by
  rintro G H σ ρ n τ v1 v2 r1 r2 R Q e ⟨i, j, rfl, rfl, hc, hR⟩ k
  have h2 := e.topV
  have h1 := e.pop.topV
  cases h1
  cases h2
  exact ⟨i, j, rfl, rfl, hc, k _ _ _ _ hR (e.pop.pop.pushV (hf _ _ _ _))⟩
theorem snd_rI0 {f : Int → Int → V} {g : Int → Int → D} (hf : ∀ (G : Gh) (H : Hp) i j, Rep K G H (f i j) (g i j)) : SndO K B (gI (fun _ _ => True) g) (rI0 f) := by
  rintro G H σ ρ n τ v1 v2 r1 r2 R Q e ⟨i, j, rfl, rfl, hc, hR⟩ k
  have h2 := e.topV
  have h1 := e.pop.topV
  cases h1
  cases h2
  exact ⟨i, j, rfl, rfl, k _ _ _ _ hR (e.pop.pop.pushV (hf _ _ _ _))⟩
theorem SndO.or {g g' : G2} {r r' : R2} (h : SndO K B g r) (h' : SndO K B g' r') : SndO K B (fun a b R => g a b R ∨ g' a b R) (fun x y H Q => r x y H Q ∨ r' x y H Q) := by
  rintro G H σ ρ n τ v1 v2 r1 r2 R Q e (hg | hg) k
  · exact .inl (h _ _ _ _ _ _ _ _ _ _ _ _ e hg k)
  · exact .inr (h' _ _ _ _ _ _ _ _ _ _ _ _ e hg k)
theorem SndO.imp {g g' : G2} {r : R2} (h : SndO K B g r) (i : ∀ a b R, g' a b R → g a b R) : SndO K B g' r := fun G H σ ρ n τ v1 v2 r1 r2 R Q e hg k => h _ _ _ _ _ _ _ _ _ _ _ _ e (i _ _ _ hg) k
abbrev gMinus : G2 := gI (fun _ _ => True) fun i j => .int (i - j)
abbrev gMod : G2 := gI (fun _ j => j ≠ 0) fun i j => .int (i.fmod j)
abbrev gDiv : G2 := gI CDivN fun i j => .int (i.fdiv j)
abbrev gPow : G2 := gI CPow fun i j => .int (i ^ j.toNat)
abbrev gLt : G2 := gI (fun _ _ => True) fun i j => .bl (decide (i < j))
abbrev gLe : G2 := gI (fun _ _ => True) fun i j => .bl (decide (i ≤ j))
abbrev gGt : G2 := gI (fun _ _ => True) fun i j => .bl (decide (j < i))
abbrev gGe : G2 := gI (fun _ _ => True) fun i j => .bl (decide (j ≤ i))
theorem de_sub (ha : DE X B a wa) (hb : DE X B b wb) : DE X B (.BinOp a .Sub b pos) (wOp gMinus wa wb) := de_op (snd_rI0 fun _ _ i j => .int (i - j)) op_sub ha hb
theorem de_mod (ha : DE X B a wa) (hb : DE X B b wb) : DE X B (.BinOp a .Mod b pos) (wOp gMod wa wb) := de_op (snd_rI fun _ _ i j => .int (i.fmod j)) op_modN ha hb
theorem de_div (ha : DE X B a wa) (hb : DE X B b wb) : DE X B (.BinOp a .FloorDiv b pos) (wOp gDiv wa wb) := de_op (snd_rI fun _ _ i j => .int (i.fdiv j)) op_fdivN ha hb
theorem de_pow (ha : DE X B a wa) (hb : DE X B b wb) : DE X B (.BinOp a .Pow b pos) (wOp gPow wa wb) := de_op (snd_rI fun _ _ i j => .int (i ^ j.toNat)) op_pow ha hb
theorem snd_lt : SndO K B gLt (rI0 fun i j => .bl (decide (i < j))) := snd_rI0 fun _ _ i j => .bl _
theorem snd_le : SndO K B gLe (rI0 fun i j => .bl (decide (i ≤ j))) := snd_rI0 fun _ _ i j => .bl _
theorem snd_gt : SndO K B gGt (rI0 fun i j => .bl (decide (j < i))) := snd_rI0 fun _ _ i j => .bl _
theorem snd_ge : SndO K B gGe (rI0 fun i j => .bl (decide (j ≤ i))) := snd_rI0 fun _ _ i j => .bl _
theorem de_lt (ha : DE X B a wa) (hb : DE X B b wb) : DE X B (.Compare a [.Lt] [b] pos) (wOp gLt wa wb) := de_cmp snd_lt op_lt ha hb (nomark _)
theorem de_le (ha : DE X B a wa) (hb : DE X B b wb) : DE X B (.Compare a [.LtE] [b] pos) (wOp gLe wa wb) := de_cmp snd_le op_le ha hb (nomark _)
theorem de_gt (ha : DE X B a wa) (hb : DE X B b wb) : DE X B (.Compare a [.Gt] [b] pos) (wOp gGt wa wb) := de_cmp snd_gt op_gt ha hb (nomark _)
theorem de_ge (ha : DE X B a wa) (hb : DE X B b wb) : DE X B (.Compare a [.GtE] [b] pos) (wOp gGe wa wb) := de_cmp snd_ge op_ge ha hb (nomark _)
theorem dt_lt (ha : DE X B a wa) (hb : DE X B b wb) : DT X B (.Compare a [.Lt] [b] pos) (wTst (wOp gLt wa wb)) := dt_cmp snd_lt op_lt ha hb (nomark _)
theorem dt_le (ha : DE X B a wa) (hb : DE X B b wb) : DT X B (.Compare a [.LtE] [b] pos) (wTst (wOp gLe wa wb)) := dt_cmp snd_le op_le ha hb (nomark _)
theorem dt_gt (ha : DE X B a wa) (hb : DE X B b wb) : DT X B (.Compare a [.Gt] [b] pos) (wTst (wOp gGt wa wb)) := dt_cmp snd_gt op_gt ha hb (nomark _)
theorem dt_ge (ha : DE X B a wa) (hb : DE X B b wb) : DT X B (.Compare a [.GtE] [b] pos) (wTst (wOp gGe wa wb)) := dt_cmp snd_ge op_ge ha hb (nomark _)
theorem de_chainLL (ha : DE X B a wa) (hb : DE X B b wb) (hc : DE X B c wc) (hm : lastMarks [.LtE, .LtE] [b, c] = false := by with_unfolding_all rfl) : DE X B (.Compare a [.LtE, .LtE] [b, c] pos) (wChain gLe gLe wa wb wc) := de_chain snd_le snd_le op_le op_le ha hb hc hm
theorem dt_chainLL (ha : DE X B a wa) (hb : DE X B b wb) (hc : DE X B c wc) (hm : lastMarks [.LtE, .LtE] [b, c] = false := by with_unfolding_all rfl) : DT X B (.Compare a [.LtE, .LtE] [b, c] pos) (wTst (wChain gLe gLe wa wb wc)) := dt_chain snd_le snd_le op_le op_le ha hb hc hm
/-! ### + -/
def gAdd : G2 := fun r1 r2 R => match r1, r2 with
  | .val (.int i), .val (.int j) => R (.val (.int (i + j)))
  | .val (.tup x), .val (.tup y) => x.length + y.length ≤ sizeLine ∧ R (.val (.tup (x ++ y)))
  | .val (.str x), .val (.str y) => x.length + y.length ≤ sizeLine ∧ R (.val (.str (x ++ y)))
  | r1, r2 => match listOf r1, listOf r2 with
    | some x, some y => x.length + y.length ≤ sizeLine ∧ R (.new (x ++ y))
    | _, _ => False
def rAddAll (K : PySem.W.Frag) : R2 := fun x y H Q => (rI0 fun i j => .int (i + j)) x y H Q ∨ rCatA K x y H Q ∨ (fun (x y : V) (H : Hp) (Q : VK) => ∃ i j, x = .str i ∧ y = .str j ∧ i.length + j.length ≤ sizeLine ∧ Q (.str (i ++ j)) H) x y H Q ∨ rCat x y H Q
theorem op_addAll : OpR X (binaryOp .Add) (rAddAll X.K) := op_add.or (op_catA.or (op_add_str.or op_cat))
theorem snd_add : SndO K B gAdd (rAddAll K) := by
  intro G H σ ρ n τ v1 v2 r1 r2 R Q e hg k
  have lists : ∀ x y, listOf r1 = some x → listOf r2 = some y → x.length + y.length ≤ sizeLine → R (.new (x ++ y)) → rAddAll K v1 v2 H Q := fun x y e1 e2 hl hR => by
    obtain ⟨a1, vs1, rfl, q1, l1⟩ := tmp_list e.top2 e1
    obtain ⟨a2, vs2, rfl, q2, l2⟩ := tmp_list e.top e2
    exact .inr (.inr (.inr ⟨a1, a2, vs1, vs2, rfl, rfl, q1, q2, by rw [l1.length, l2.length]; exact hl, fun p hp => k _ _ _ _ hR (e.pop.pop.pushNew hp (l1.append l2))⟩))
  unfold gAdd at hg
  split at hg
  · have h2 := e.topV
    have h1 := e.pop.topV
    cases h1
    cases h2
    exact .inl ⟨_, _, rfl, rfl, k _ _ _ _ hg (e.pop.pop.pushV (.int _))⟩
  · have h2 := e.topV
    have h1 := e.pop.topV
    cases h1 with | tup s1 l1 => cases h2 with | tup s2 l2 =>
    refine .inr (.inl ⟨_, _, _, _, rfl, rfl, SqT.of s1, SqT.of s2, by rw [l1.length, l2.length]; exact hg.1, fun z => ?_, fun _ z => ?_, fun _ _ p hp => k _ _ _ _ hg.2 (e.pop.pop.pushTup hp (l1.append l2))⟩)
    · have z' := l1.nil_iff.mp z
      rw [z'] at hg
      exact k _ _ _ _ hg.2 (e.pop.pop.pushV (.tup s2 l2))
    · have z' := l2.nil_iff.mp z
      rw [z', List.append_nil] at hg
      exact k _ _ _ _ hg.2 (e.pop.pop.pushV (.tup s1 l1))
  · have h2 := e.topV
    have h1 := e.pop.topV
    cases h1
    cases h2
    exact .inr (.inr (.inl ⟨_, _, rfl, rfl, hg.1, k _ _ _ _ hg.2 (e.pop.pop.pushV (.str _))⟩))
  · split at hg
    · exact lists _ _ (by assumption) (by assumption) hg.1 hg.2
    · exact hg.elim
theorem de_add (ha : DE X B a wa) (hb : DE X B b wb) : DE X B (.BinOp a .Add b pos) (wOp gAdd wa wb) := de_op snd_add op_addAll ha hb

/-! ### == and != -/
mutual
def toPy : D → Option PyData
  | .non => some .none
  | .bl b => some (.bool b)
  | .int i => some (.int i)
  | .str x => some (.str x)
  | .tup l => (toPys l).map .tuple
  | .lst l => (toPys l).map .list
  | _ => none
def toPys : List D → Option (List PyData)
  | [] => some []
  | d :: l => match toPy d, toPys l with
    | some x, some y => some (x :: y)
    | _, _ => none
end
mutual
theorem Rep.dp {G : Gh} {H : Hp} : ∀ {v : V} {d : D} {p : PyData}, Rep K G H v d → toPy d = some p → Dp K H v p
  | _, .non, _, .non, e => by cases e; exact .non
  | _, .bl _, _, .bl _, e => by cases e; exact .bl _
  | _, .int _, _, .int _, e => by cases e; exact .int _
  | _, .str _, _, .str _, e => by cases e; exact .str _
  | _, .tup l, _, .tup q r, e => by
    simp only [toPy] at e
    cases h : toPys l with
    | none => rw [h] at e; cases e
    | some ps => rw [h] at e; cases e; exact .tup (SqT.of q) (RepL.dp r h)
  | _, .lst l, _, .lst _ q r, e => by
    simp only [toPy] at e
    cases h : toPys l with
    | none => rw [h] at e; cases e
    | some ps => rw [h] at e; cases e; exact .lst (SqL.of q) (RepL.dp r h)
  | _, .dct, _, .dct _ _ _, e => by cases e
  | _, .dc0, _, .dc0 _ _, e => by cases e
  | _, .bag _, _, .bag _, e => by cases e
  | _, .ty _, _, .ty _, e => by cases e
  | _, .scr _, _, .scr _, e => by cases e
theorem RepL.dp {G : Gh} {H : Hp} : ∀ {vs : List V} {ds : List D} {ps : List PyData}, RepL K G H vs ds → toPys ds = some ps → DpAll K H vs ps
  | _, [], _, .nil, e => by cases e; exact .nil
  | _, d :: ds, _, .cons r t, e => by
    simp only [toPys] at e
    cases h1 : toPy d with
    | none => rw [h1] at e; cases e
    | some x =>
      cases h2 : toPys ds with
      | none => rw [h1, h2] at e; cases e
      | some y => rw [h1, h2] at e; cases e; exact .cons (Rep.dp r h1) (RepL.dp t h2)
end
theorem TmpOk.dp {G : Gh} {H : Hp} {j : Nat} {v : V} {r : RV} {p : PyData} (h : TmpOk K G H j v r) (e : toPy (dOf r) = some p) : Dp K H v p := by
  cases r with
  | val d => exact Rep.dp h e
  | new l =>
    obtain ⟨a, vs, rfl, g, q, rl⟩ := h
    simp only [dOf, toPy] at e
    cases h : toPys l with
    | none => rw [h] at e; cases e
    | some ps => rw [h] at e; cases e; exact .lst (SqL.of q) (RepL.dp rl h)
  | newD t m => cases e
/-- == of data; ne: != -/
def gEq (ne : Bool) : G2 := fun r1 r2 R => match r1, r2 with
  | .val (.int i), .val (.int j) => R (.val (.bl (xor ne (decide (i = j)))))
  | .val (.str i), .val (.str j) => R (.val (.bl (xor ne (decide (i = j)))))
  | r1, .new [] => ∃ l, listOf r1 = some l ∧ R (.val (.bl (xor ne l.isEmpty)))
  | r1, r2 => ∃ p q, toPy (dOf r1) = some p ∧ toPy (dOf r2) = some q ∧ SeqAt.shaped p = true ∧ SeqAt.shaped q = true ∧ R (.val (.bl (xor ne (PyData.eqv p q))))
/-- a list against an empty one: by the lengths -/
def rEmp (K : PySem.W.Frag) (ne : Bool) : R2 := fun x y H Q => ∃ a b xs, x = .ref a ∧ y = .ref b ∧ SqL K H a xs ∧ SqL K H b [] ∧ Q (.bl (xor ne xs.isEmpty)) H
theorem op_eqEmp (hu : X.A.units < cLine) : OpR X (compareOp .Eq) (rEmp X.K false) := by
  intro pins st sl H x y v u Q I rx ry hh
  obtain ⟨a, b, xs, rfl, rfl, h1, h2, q⟩ := hh
  cases rx
  cases ry
  obtain ⟨its, r1, p1, _⟩ := I.list h1
  obtain ⟨its2, r2, p2, _⟩ := I.list h2
  cases r2
  rw [Bool.false_xor] at q
  cases r1 with
  | nil =>
    have := SeqAt.RcAt.lists (A := X.A) (e := fun _ => true) p1.isList p2.isList rfl hu (fun j h _ => by simp at h)
    exact this _ _ _ _ ⟨.bl _, H, I, rfl, q⟩
  | cons r rr =>
    have := SeqAt.RcAt.lists_lengths (A := X.A) p1.isList p2.isList (by simp) hu
    exact this _ _ _ _ ⟨.bl _, H, I, rfl, q⟩
theorem op_neEmp (hu : X.A.units < cLine) : OpR X (compareOp .NotEq) (rEmp X.K true) := by
  intro pins st sl H x y v u Q I rx ry hh
  obtain ⟨a, b, xs, rfl, rfl, h1, h2, q⟩ := hh
  cases rx
  cases ry
  obtain ⟨its, r1, p1, _⟩ := I.list h1
  obtain ⟨its2, r2, p2, _⟩ := I.list h2
  cases r2
  rw [Bool.true_xor] at q
  cases r1 with
  | nil =>
    have := SeqAt.RcNeAt.lists (A := X.A) (e := fun _ => true) p1.isList p2.isList rfl hu (fun j h _ => by simp at h)
    exact this _ _ _ _ ⟨.bl _, H, I, rfl, q⟩
  | cons r rr =>
    have := SeqAt.RcNeAt.lists_lengths (A := X.A) p1.isList p2.isList (by simp) hu
    exact this _ _ _ _ ⟨.bl _, H, I, rfl, q⟩
theorem RepL.isEmpty {G : Gh} {H : Hp} {vs : List V} {ds : List D} (h : RepL K G H vs ds) : vs.isEmpty = ds.isEmpty := by cases h <;> rfl
theorem op_eqAll (hu : X.A.units + 64 < cLine) : OpR X (compareOp .Eq) (fun x y H Q => rEq x y H Q ∨ rEmp X.K false x y H Q ∨ rEqD X.K x y H Q) := op_eq.or ((op_eqEmp (by omega)).or (op_eqD hu))
theorem op_neAll (hu : X.A.units + 64 < cLine) : OpR X (compareOp .NotEq) (fun x y H Q => rNe x y H Q ∨ rEmp X.K true x y H Q ∨ rNeD X.K x y H Q) := op_ne.or ((op_neEmp (by omega)).or (op_neD hu))
theorem snd_eq : SndO K B (gEq false) (fun x y H Q => rEq x y H Q ∨ rEmp K false x y H Q ∨ rEqD K x y H Q) := by
  intro G H σ ρ n τ v1 v2 r1 r2 R Q e hg k
  unfold gEq at hg
  split at hg
  · have h2 := e.topV
    have h1 := e.pop.topV
    cases h1
    cases h2
    refine .inl ⟨rfl, ?_⟩
    rw [dec_int, ← Bool.beq_eq_decide_eq] at *
    rw [Bool.false_xor] at hg
    exact k _ _ _ _ hg (e.pop.pop.pushV (.bl _))
  · have h2 := e.topV
    have h1 := e.pop.topV
    cases h1
    cases h2
    refine .inl ⟨rfl, ?_⟩
    rename_i i j
    have : decide (V.str i = V.str j) = decide (i = j) := by by_cases h : i = j <;> simp [h]
    rw [this]
    rw [Bool.false_xor] at hg
    exact k _ _ _ _ hg (e.pop.pop.pushV (.bl _))
  · obtain ⟨l, hl, hR⟩ := hg
    obtain ⟨a1, vs1, rfl, q1, l1⟩ := tmp_list e.top2 hl
    obtain ⟨a2, vs2, rfl, q2, l2⟩ := tmp_list e.top (l := []) rfl
    cases l2
    refine .inr (.inl ⟨a1, a2, vs1, rfl, rfl, SqL.of q1, SqL.of q2, ?_⟩)
    rw [l1.isEmpty]
    exact k _ _ _ _ hR (e.pop.pop.pushV (.bl _))
  · obtain ⟨p, q, hp, hq, sp, sq, hR⟩ := hg
    refine .inr (.inr ⟨p, q, e.top2.dp hp, e.top.dp hq, sp, sq, ?_⟩)
    rw [Bool.false_xor] at hR
    exact k _ _ _ _ hR (e.pop.pop.pushV (.bl _))
theorem snd_ne : SndO K B (gEq true) (fun x y H Q => rNe x y H Q ∨ rEmp K true x y H Q ∨ rNeD K x y H Q) := by
  intro G H σ ρ n τ v1 v2 r1 r2 R Q e hg k
  unfold gEq at hg
  split at hg
  · have h2 := e.topV
    have h1 := e.pop.topV
    cases h1
    cases h2
    refine .inl ⟨rfl, ?_⟩
    rename_i i j
    have : decide (V.int i = V.int j) = decide (i = j) := by by_cases h : i = j <;> simp [h]
    rw [this]
    rw [Bool.true_xor] at hg
    exact k _ _ _ _ hg (e.pop.pop.pushV (.bl _))
  · have h2 := e.topV
    have h1 := e.pop.topV
    cases h1
    cases h2
    refine .inl ⟨rfl, ?_⟩
    rename_i i j
    have : decide (V.str i = V.str j) = decide (i = j) := by by_cases h : i = j <;> simp [h]
    rw [this]
    rw [Bool.true_xor] at hg
    exact k _ _ _ _ hg (e.pop.pop.pushV (.bl _))
  · obtain ⟨l, hl, hR⟩ := hg
    obtain ⟨a1, vs1, rfl, q1, l1⟩ := tmp_list e.top2 hl
    obtain ⟨a2, vs2, rfl, q2, l2⟩ := tmp_list e.top (l := []) rfl
    cases l2
    refine .inr (.inl ⟨a1, a2, vs1, rfl, rfl, SqL.of q1, SqL.of q2, ?_⟩)
    rw [l1.isEmpty]
    exact k _ _ _ _ hR (e.pop.pop.pushV (.bl _))
  · obtain ⟨p, q, hp, hq, sp, sq, hR⟩ := hg
    refine .inr (.inr ⟨p, q, e.top2.dp hp, e.top.dp hq, sp, sq, ?_⟩)
    rw [Bool.true_xor] at hR
    exact k _ _ _ _ hR (e.pop.pop.pushV (.bl _))
theorem de_eq (hu : X.A.units + 64 < cLine) (ha : DE X B a wa) (hb : DE X B b wb) : DE X B (.Compare a [.Eq] [b] pos) (wOp (gEq false) wa wb) := de_cmp snd_eq (op_eqAll hu) ha hb (nomark _)
theorem de_ne (hu : X.A.units + 64 < cLine) (ha : DE X B a wa) (hb : DE X B b wb) : DE X B (.Compare a [.NotEq] [b] pos) (wOp (gEq true) wa wb) := de_cmp snd_ne (op_neAll hu) ha hb (nomark _)
theorem dt_eq (hu : X.A.units + 64 < cLine) (ha : DE X B a wa) (hb : DE X B b wb) : DT X B (.Compare a [.Eq] [b] pos) (wTst (wOp (gEq false) wa wb)) := dt_cmp snd_eq (op_eqAll hu) ha hb (nomark _)
theorem dt_ne (hu : X.A.units + 64 < cLine) (ha : DE X B a wa) (hb : DE X B b wb) : DT X B (.Compare a [.NotEq] [b] pos) (wTst (wOp (gEq true) wa wb)) := dt_cmp snd_ne (op_neAll hu) ha hb (nomark _)
/-! ### is None, is not None -/
def isNon : RV → Bool
  | .val .non => true
  | _ => false
def gIsN (neg : Bool) : G2 := fun r1 r2 R => r2 = .val .non ∧ R (.val (.bl (xor neg (isNon r1))))
theorem non_iff {G : Gh} {H : Hp} {j : Nat} {v : V} {r : RV} (h : TmpOk K G H j v r) : decide (v = .non) = isNon r := by
  cases r with
  | new l => obtain ⟨a, vs, rfl, _⟩ := h; rfl
  | newD t l => obtain ⟨a, vs, rfl, _⟩ := h; rfl
  | val d => cases h <;> rfl
theorem snd_isN : SndO K B (gIsN false) (fun x y H Q => y = .non ∧ Q (.bl (decide (x = .non))) H) := by
  rintro G H σ ρ n τ v1 v2 r1 r2 R Q e ⟨rfl, hR⟩ k
  have h2 := e.topV
  cases h2
  refine ⟨rfl, ?_⟩
  rw [non_iff e.top2]
  rw [Bool.false_xor] at hR
  exact k _ _ _ _ hR (e.pop.pop.pushV (.bl _))
theorem snd_notN : SndO K B (gIsN true) (fun x y H Q => y = .non ∧ Q (.bl (!decide (x = .non))) H) := by
  rintro G H σ ρ n τ v1 v2 r1 r2 R Q e ⟨rfl, hR⟩ k
  have h2 := e.topV
  cases h2
  refine ⟨rfl, ?_⟩
  rw [non_iff e.top2]
  rw [Bool.true_xor] at hR
  exact k _ _ _ _ hR (e.pop.pop.pushV (.bl _))
theorem de_isN (ha : DE X B a wa) (hb : DE X B b wb) : DE X B (.Compare a [.Is] [b] pos) (wOp (gIsN false) wa wb) := de_cmp snd_isN op_isN ha hb (nomark _)
theorem de_notN (ha : DE X B a wa) (hb : DE X B b wb) : DE X B (.Compare a [.IsNot] [b] pos) (wOp (gIsN true) wa wb) := de_cmp snd_notN op_notN ha hb (nomark _)
theorem dt_isN (ha : DE X B a wa) (hb : DE X B b wb) : DT X B (.Compare a [.Is] [b] pos) (wTst (wOp (gIsN false) wa wb)) := dt_cmp snd_isN op_isN ha hb (nomark _)
theorem dt_notN (ha : DE X B a wa) (hb : DE X B b wb) : DT X B (.Compare a [.IsNot] [b] pos) (wTst (wOp (gIsN true) wa wb)) := dt_cmp snd_notN op_notN ha hb (nomark _)
end
end Ly

namespace Ly
open PySem PySem.Spec PyProof.Rows L2
section
variable {X : Cx} {B : Bs} {a b c e : Expr} {es : List Expr} {pos : Pos} {wa wb wc : TD} {ws : TDA} {wt wu : TDT} {K : PySem.W.Frag}

/-! ### and, or, not, if .. else -/
def wTAnd (w u : TDT) : TDT := fun ρ n Q => w ρ n fun b ρ1 n1 => if b = true then u ρ1 n1 Q else Q false ρ1 n1
def wTOr (w u : TDT) : TDT := fun ρ n Q => w ρ n fun b ρ1 n1 => if b = true then Q true ρ1 n1 else u ρ1 n1 Q
def wTNot (w : TDT) : TDT := fun ρ n Q => w ρ n fun b ρ1 n1 => Q (!b) ρ1 n1
abbrev DW (X : Cx) (B : Bs) (e : Expr) (w : TDT) : Prop := PW X e (tDT X.K B w)
theorem dw_and1 (ha : DT X B a wt) : DW X B (.BoolOp .And [a] pos) wt := pw_and1 ha
theorem dw_or1 (ha : DT X B a wt) : DW X B (.BoolOp .Or [a] pos) wt := pw_or1 ha
theorem dw_and (ha : DT X B a wt) (hb : DW X B (.BoolOp .And (b :: es) pos) wu) : DW X B (.BoolOp .And (a :: b :: es) pos) (wTAnd wt wu) :=
  PW.imp (pw_and ha hb) fun σ H Q ⟨G, ρ, n, τ, Q', e, hw, k⟩ => ⟨G, ρ, n, τ, _, e, hw, fun b ρ' n' G' H' h1 e1 => by
    cases b with
    | true => exact iteT ⟨G', ρ', n', τ, Q', e1, by simpa using h1, k⟩
    | false => exact iteF (k _ _ _ _ _ (by simpa using h1) e1)⟩
theorem dw_or (ha : DT X B a wt) (hb : DW X B (.BoolOp .Or (b :: es) pos) wu) : DW X B (.BoolOp .Or (a :: b :: es) pos) (wTOr wt wu) :=
  PW.imp (pw_or ha hb) fun σ H Q ⟨G, ρ, n, τ, Q', e, hw, k⟩ => ⟨G, ρ, n, τ, _, e, hw, fun b ρ' n' G' H' h1 e1 => by
    cases b with
    | true => exact iteT (k _ _ _ _ _ (by simpa using h1) e1)
    | false => exact iteF ⟨G', ρ', n', τ, Q', e1, by simpa using h1, k⟩⟩
theorem dt_bool {op} (h : DW X B (.BoolOp op es pos) wt) : DT X B (.BoolOp op es pos) wt := PW.pt h
theorem dt_not (ha : DT X B a wt) : DT X B (.UnaryOp .Not a pos) (wTNot wt) :=
  PT.imp (pt_not ha) fun σ H Q ⟨G, ρ, n, τ, Q', e, hw, k⟩ => ⟨G, ρ, n, τ, _, e, hw, fun b ρ' n' G' H' h1 e1 => k _ _ _ _ _ h1 e1⟩
/-- .. as values: all but the last are truth values -/
def wAndV (w u : TD) : TD := fun ρ n Q => w ρ n fun r ρ1 n1 => ∃ b, r = .val (.bl b) ∧ if b = true then u ρ1 n1 Q else Q (.val (.bl false)) ρ1 n1
def wOrV (w u : TD) : TD := fun ρ n Q => w ρ n fun r ρ1 n1 => ∃ b, r = .val (.bl b) ∧ if b = true then Q (.val (.bl true)) ρ1 n1 else u ρ1 n1 Q
def wNotV (w : TD) : TD := fun ρ n Q => w ρ n fun r ρ1 n1 => ∃ b, r = .val (.bl b) ∧ Q (.val (.bl (!b))) ρ1 n1
theorem de_one {op} (ha : DE X B a wa) : DE X B (.BoolOp op [a] pos) wa := pe_one ha
theorem de_and (ha : DE X B a wa) (hb : DE X B (.BoolOp .And (b :: es) pos) wb) : DE X B (.BoolOp .And (a :: b :: es) pos) (wAndV wa wb) :=
  PE.imp (pe_and ha hb) fun σ H Q ⟨G, ρ, n, τ, Q', e, hw, k⟩ => ⟨G, ρ, n, τ, _, e, hw, fun r ρ' n' v G' H' ⟨b, hr, h1⟩ e1 => by
    subst hr
    have rv := e1.topV
    cases rv
    refine ⟨b, rfl, ?_⟩
    cases b with
    | true => exact iteT ⟨G', ρ', n', τ, Q', e1.pop, by simpa using h1, k⟩
    | false => exact iteF (k _ _ _ _ _ _ (by simpa using h1) e1)⟩
theorem de_or (ha : DE X B a wa) (hb : DE X B (.BoolOp .Or (b :: es) pos) wb) : DE X B (.BoolOp .Or (a :: b :: es) pos) (wOrV wa wb) :=
  PE.imp (pe_or ha hb) fun σ H Q ⟨G, ρ, n, τ, Q', e, hw, k⟩ => ⟨G, ρ, n, τ, _, e, hw, fun r ρ' n' v G' H' ⟨b, hr, h1⟩ e1 => by
    subst hr
    have rv := e1.topV
    cases rv
    refine ⟨b, rfl, ?_⟩
    cases b with
    | true => exact iteT (k _ _ _ _ _ _ (by simpa using h1) e1)
    | false => exact iteF ⟨G', ρ', n', τ, Q', e1.pop, by simpa using h1, k⟩⟩
theorem de_not (ha : DE X B a wa) : DE X B (.UnaryOp .Not a pos) (wNotV wa) :=
  PE.imp (pe_not ha) fun σ H Q ⟨G, ρ, n, τ, Q', e, hw, k⟩ => ⟨G, ρ, n, τ, _, e, hw, fun r ρ' n' v G' H' ⟨b, hr, h1⟩ e1 => by
    subst hr
    have rv := e1.topV
    cases rv
    exact ⟨b, rfl, k _ _ _ _ _ _ h1 (e1.pop.pushV (.bl _))⟩⟩
def wIf (w : TDT) (wa wb : TD) : TD := fun ρ n Q => w ρ n fun b ρ1 n1 => if b = true then wa ρ1 n1 Q else wb ρ1 n1 Q
theorem de_if (hc : DT X B c wt) (ha : DE X B a wa) (hb : DE X B b wb) : DE X B (.IfExp c a b pos) (wIf wt wa wb) :=
  PE.imp (pe_ifExp hc ha hb) fun σ H Q ⟨G, ρ, n, τ, Q', e, hw, k⟩ => ⟨G, ρ, n, τ, _, e, hw, fun b ρ' n' G' H' h1 e1 => by
    cases b with
    | true => exact iteT ⟨G', ρ', n', τ, Q', e1, by simpa using h1, k⟩
    | false => exact iteF ⟨G', ρ', n', τ, Q', e1, by simpa using h1, k⟩⟩
/-- -a -/
def wNeg (w : TD) : TD := fun ρ n Q => w ρ n fun r ρ1 n1 => ∃ i, r = .val (.int i) ∧ Q (.val (.int (-i))) ρ1 n1
theorem de_neg (ha : DE X B a wa) : DE X B (.UnaryOp .USub a pos) (wNeg wa) :=
  PE.imp (pe_un un_neg ha) fun σ H Q ⟨G, ρ, n, τ, Q', e, hw, k⟩ => ⟨G, ρ, n, τ, _, e, hw, fun r ρ' n' v G' H' ⟨i, hr, h1⟩ e1 => by
    subst hr
    have rv := e1.topV
    cases rv
    exact ⟨i, rfl, k _ _ _ _ _ _ h1 (e1.pop.pushV (.int _))⟩⟩

/-! ### items -/
def seqS : SV → Option (List D)
  | .val (.lst l) => some l
  | .val (.tup l) => some l
  | .own l => some l
  | _ => none
theorem slot_seq {G : Gh} {H : Hp} {o : Option (Option V)} {i : Nat} {s : SV} {l : List D} (h : SlotOk K G H o i s) (e : seqS s = some l) : ∃ a vs, o = some (some (.ref a)) ∧ (SqL K H a vs ∨ SqT K H a vs) ∧ RepL K G H vs l := by
  cases s with
  | un => cases e
  | ownD t m => cases e
  | err a d nms ds => cases e
  | own l' => cases e; obtain ⟨a, vs, e, g, q, rl⟩ := h; exact ⟨a, vs, e, .inl (SqL.of q), rl⟩
  | val d =>
    obtain ⟨v, ev, rv⟩ := h
    cases d with
    | lst l' => cases e; cases rv with | lst g q rl => exact ⟨_, _, ev, .inl (SqL.of q), rl⟩
    | tup l' => cases e; cases rv with | tup q rl => exact ⟨_, _, ev, .inr (SqT.of q), rl⟩
    | _ => cases e
theorem repL_at {G : Gh} {H : Hp} {vs : List V} {l : List D} {i : Int} {d : D} (rl : RepL K G H vs l) (h : atI l i = some d) : ∃ v, atI vs i = some v ∧ Rep K G H v d := by
  unfold atI at h ⊢
  rw [rl.length]
  cases q : ixN l.length i with
  | none => rw [q] at h; cases h
  | some j => rw [q] at h; exact rl.get h
/-- the item of what a name holds -/
def wIxN (i : Nat) (wb : TD) : TD := fun ρ n Q => (∃ s l, ρ[i]? = some s ∧ seqS s = some l) ∧ wb ρ n fun r ρ1 n1 => ∃ s l k d, ρ1[i]? = some s ∧ seqS s = some l ∧ r = .val (.int k) ∧ atI l k = some d ∧ Q (.val d) ρ1 n1
theorem de_ixN {i : Nat} (ha : PE X a (tVar i)) (hb : DE X B b wb) (hs : PlainIx b) : DE X B (.Subscript a b pos) (wIxN i wb) :=
  PE.imp (pe_ix ix_seq ha hb hs) fun σ H Q ⟨G, ρ, n, τ, Q', e, ⟨⟨s, l, hs, hl⟩, hw⟩, k⟩ => by
    obtain ⟨p, vs, ev, _, _⟩ := slot_seq (e.sl i s hs) hl
    refine ⟨_, ev, G, ρ, n, τ, _, e, hw, fun r ρ' n' v G' H' ⟨s', l', j, d, hs', hl', hr, hat, h1⟩ e1 => ?_⟩
    subst hr
    have rv := e1.topV
    cases rv
    obtain ⟨p', vs', ev', sq, rl⟩ := slot_seq (e1.sl i s' hs') hl'
    rw [ev] at ev'
    cases ev'
    obtain ⟨x, hx, rx⟩ := repL_at rl hat
    rcases sq with sq | sq
    · exact .inl ⟨_, _, _, _, rfl, rfl, sq, hx, k _ _ _ _ _ _ h1 (e1.pop.pushV rx)⟩
    · exact .inr (.inl ⟨_, _, _, _, rfl, rfl, sq, hx, k _ _ _ _ _ _ h1 (e1.pop.pushV rx)⟩)
/-- the item of what an expression gives -/
def wIx (wa wb : TD) : TD := fun ρ n Q => wa ρ n fun r1 ρ1 n1 => wb ρ1 n1 fun r2 ρ2 n2 => ∃ l k d, seqOf r1 = some l ∧ r2 = .val (.int k) ∧ atI l k = some d ∧ Q (.val d) ρ2 n2
theorem de_ix (ha : DE X B a wa) (hb : DE X B b wb) (hs : PlainIx b) : DE X B (.Subscript a b pos) (wIx wa wb) :=
  PE.imp (pe_ix ix_seq ha hb hs) fun σ H Q ⟨G, ρ, n, τ, Q', e, hw, k⟩ => ⟨G, ρ, n, τ, _, e, hw, fun r1 ρ1 n1 v1 G1 H1 h1 e1 => ⟨G1, ρ1, n1, _, _, e1, h1, fun r2 ρ2 n2 v2 G2 H2 ⟨l, j, d, hl, hr, hat, h2⟩ e2 => by
    subst hr
    have rv := e2.topV
    cases rv
    obtain ⟨p, vs, rfl, sq, rl⟩ := tmp_seq e2.top2 hl
    obtain ⟨x, hx, rx⟩ := repL_at rl hat
    rcases sq with sq | sq
    · exact .inl ⟨_, _, _, _, rfl, rfl, sq, hx, k _ _ _ _ _ _ h2 (e2.pop.pop.pushV rx)⟩
    · exact .inr (.inl ⟨_, _, _, _, rfl, rfl, sq, hx, k _ _ _ _ _ _ h2 (e2.pop.pop.pushV rx)⟩)⟩⟩

/-! ### calls of built-in functions and types -/
abbrev G1 := List RV → (RV → Prop) → Prop
def SndC (K : PySem.W.Frag) (B : Bs) (g : G1) (r : List V → Hp → VK → Prop) : Prop := ∀ (G : Gh) (H : Hp) (σ : L2.St) (ρ : List SV) (n : Nat) (τ : List (V × RV)) (vs : List V) (rs : List RV) (R : RV → Prop) (Q : VK),
  EnvOk K B.1 B.2 G H σ ρ n (τ ++ vs.zip rs) → vs.length = rs.length → g rs R → (∀ r v G' H', R r → EnvOk K B.1 B.2 G' H' σ ρ n (τ ++ [(v, r)]) → Q v H') → r vs H Q
def wCB (g : G1) (ws : TDA) : TD := fun ρ n Q => ws ρ n fun rs ρ1 n1 => g rs fun r => Q r ρ1 n1
theorem tCB_of {g : G1} {r : List V → Hp → VK → Prop} (s : SndC K B g r) {σ : L2.St} {H : Hp} {Q : VK} (h : tD K B (wCB g ws) σ H Q) : tCB r (tDA K B ws) σ H Q := by
  obtain ⟨G, ρ, n, τ, Q', e, hw, k⟩ := h
  exact ⟨G, ρ, n, τ, _, e, hw, fun rs ρ' n' vs G' H' h1 hl e1 => s _ _ _ _ _ _ _ _ _ _ e1 hl h1 fun r v G' H' hR e3 => k _ _ _ _ _ _ hR e3⟩
theorem de_callB {g : G1} {r : List V → Hp → VK → Prop} {id : String} {x : Str} {p : Pos} (s : SndC X.K B g r) (hc : CallR X (.builtin id) r) (hg : Gl X x) (hm : X.mg x = none) (hv : bootBuiltins x = some (.builtin id)) (ha : DA X B (e :: es) ws)
    (hn : x ≠ "__name__" := by decide) (hdb : (x == ("__debug__" : Str)) = false := by decide) (he : starEach (e :: es) X.env = (false, eval e X.env) :: starEach es X.env := by rfl) (hpl : (backTo pos (starEach es X.env)).any (·.1) = false := by rfl) :
    DE X B (.Call (.Name x p) (e :: es) [] pos) (wCB g ws) := PE.imp (pe_callB hc hg hm hv ha hn hdb he hpl) fun _ _ _ h => tCB_of s h
theorem de_callTy {g : G1} {r : List V → Hp → VK → Prop} {T : String} {x : Str} {p : Pos} (s : SndC X.K B g r) (hc : CallR X (.type T) r) (hg : Gl X x) (hm : X.mg x = none) (hv : bootBuiltins x = some (.type T)) (ha : DA X B (e :: es) ws)
    (hn : x ≠ "__name__" := by decide) (hdb : (x == ("__debug__" : Str)) = false := by decide) (he : starEach (e :: es) X.env = (false, eval e X.env) :: starEach es X.env := by rfl) (hpl : (backTo pos (starEach es X.env)).any (·.1) = false := by rfl) :
    DE X B (.Call (.Name x p) (e :: es) [] pos) (wCB g ws) := PE.imp (pe_callTy hc hg hm hv ha hn hdb he hpl) fun _ _ _ h => tCB_of s h
theorem len1 {α β : Type} {vs : List α} {r : β} (h : vs.length = [r].length) : ∃ v, vs = [v] := by
  cases vs with
  | nil => cases h
  | cons v vs => cases vs with
    | nil => exact ⟨v, rfl⟩
    | cons _ _ => simp at h
theorem len2 {α β : Type} {vs : List α} {r r' : β} (h : vs.length = [r, r'].length) : ∃ v v', vs = [v, v'] := by
  cases vs with
  | nil => cases h
  | cons v vs => cases vs with
    | nil => simp at h
    | cons v' vs => cases vs with
      | nil => exact ⟨v, v', rfl⟩
      | cons _ _ => simp at h
theorem zip2 {K : PySem.W.Frag} {G0 G : Gh} {H0 H : Hp} {σ : L2.St} {ρ : List SV} {n : Nat} {τ : List (V × RV)} {v v' : V} {r r' : RV} (e : EnvOk K G0 H0 G H σ ρ n (τ ++ [v, v'].zip [r, r'])) : EnvOk K G0 H0 G H σ ρ n (τ ++ [(v, r)] ++ [(v', r')]) := by
  rw [List.append_assoc]
  exact e
/-- len -/
def gLen : G1 := fun rs R => ∃ r, rs = [r] ∧ ∃ l, seqOf r = some l ∧ R (.val (.int l.length))
theorem snd_len : SndC K B gLen (fun xs H Q => ∃ x n, xs = [x] ∧ LenV K x H n ∧ Q (.int n) H) := by
  rintro G H σ ρ n τ vs rs R Q e hl ⟨r, rfl, l, hr, hR⟩ k
  obtain ⟨v, rfl⟩ := len1 hl
  have e : EnvOk K B.1 B.2 G H σ ρ n (τ ++ [(v, r)]) := e
  obtain ⟨a, ws, rfl, sq, rl⟩ := tmp_seq e.top hr
  refine ⟨_, l.length, rfl, ?_, k _ _ _ _ hR (e.pop.pushV (.int _))⟩
  rcases sq with sq | sq
  · exact .inl ⟨ws, sq, rl.length.symm⟩
  · exact .inr ⟨ws, sq, rl.length.symm⟩
/-- len of what a name holds -/
def wLenN (i : Nat) : TD := fun ρ n Q => ∃ s l, ρ[i]? = some s ∧ seqS s = some l ∧ Q (.val (.int l.length)) ρ n
theorem de_lenN {i : Nat} {y : Str} {p p' : Pos} (ha : PE X (.Name y p') (tVar i)) (hg : Gl X "len") (hm : X.mg "len" = none) : DE X B (.Call (.Name "len" p) [.Name y p'] [] pos) (wLenN i) :=
  PE.imp (pe_callB call_len hg hm PySem.boot_len (pa_cons ha pa_nil)) fun σ H Q ⟨G, ρ, n, τ, Q', e, ⟨s, l, hs, hl, h1⟩, k⟩ => by
    obtain ⟨a, vs, ev, sq, rl⟩ := slot_seq (e.sl i s hs) hl
    refine ⟨_, ev, _, l.length, rfl, ?_, k _ _ _ _ _ _ h1 (e.pushV (.int _))⟩
    rcases sq with sq | sq
    · exact .inl ⟨vs, sq, rl.length.symm⟩
    · exact .inr ⟨vs, sq, rl.length.symm⟩
/-- abs, min, max, int -/
def gAbs : G1 := fun rs R => ∃ i, rs = [.val (.int i)] ∧ R (.val (.int (if i < 0 then -i else i)))
theorem snd_abs : SndC K B gAbs (fun xs H Q => ∃ i, xs = [.int i] ∧ Q (.int (if i < 0 then -i else i)) H) := by
  rintro G H σ ρ n τ vs rs R Q e hl ⟨i, rfl, hR⟩ k
  obtain ⟨v, rfl⟩ := len1 hl
  have e : EnvOk K B.1 B.2 G H σ ρ n (τ ++ [(v, _)]) := e
  have rv := e.topV
  cases rv
  exact ⟨i, rfl, k _ _ _ _ hR (e.pop.pushV (.int _))⟩
def gMM (f : Int → Int → Int) : G1 := fun rs R => ∃ i j, rs = [.val (.int i), .val (.int j)] ∧ R (.val (.int (f i j)))
theorem snd_mm {f : Int → Int → Int} : SndC K B (gMM f) (fun xs H Q => ∃ i j, xs = [.int i, .int j] ∧ Q (.int (f i j)) H) := by
  rintro G H σ ρ n τ vs rs R Q e hl ⟨i, j, rfl, hR⟩ k
  obtain ⟨v, v', rfl⟩ := len2 hl
  have e := zip2 e
  have r2 := e.topV
  have r1 := e.pop.topV
  cases r1
  cases r2
  exact ⟨i, j, rfl, k _ _ _ _ hR (e.pop.pop.pushV (.int _))⟩
abbrev gMin : G1 := gMM fun i j => if j < i then j else i
abbrev gMax : G1 := gMM fun i j => if j > i then j else i
def gInt : G1 := fun rs R => ∃ r, rs = [r] ∧ ((∃ i, r = .val (.int i) ∧ R (.val (.int i))) ∨ ∃ b, r = .val (.bl b) ∧ R (.val (.int (if b then 1 else 0))))
theorem snd_int : SndC K B gInt (fun xs H Q => (∃ i, xs = [.int i] ∧ Q (.int i) H) ∨ ∃ k, xs = [.bl k] ∧ Q (.int (if k then 1 else 0)) H) := by
  rintro G H σ ρ n τ vs rs R Q e hl ⟨r, rfl, h⟩ k
  obtain ⟨v, rfl⟩ := len1 hl
  have e : EnvOk K B.1 B.2 G H σ ρ n (τ ++ [(v, r)]) := e
  rcases h with ⟨i, rfl, hR⟩ | ⟨b, rfl, hR⟩
  · have rv := e.topV
    cases rv
    exact .inl ⟨i, rfl, k _ _ _ _ hR e⟩
  · have rv := e.topV
    cases rv
    exact .inr ⟨b, rfl, k _ _ _ _ hR (e.pop.pushV (.int _))⟩
/-- tuple(list), tuple(tuple), list(list), list(tuple) -/
def gTuple : G1 := fun rs R => ∃ r l, rs = [r] ∧ seqOf r = some l ∧ R (.val (.tup l))
theorem snd_tuple : SndC K B gTuple (fun xs H Q => ∃ p ys, xs = [.ref p] ∧ ((SqL K H p ys ∧ ∀ l, H l = none → Q (.ref l) (upd H l (.tup ys))) ∨ (SqT K H p ys ∧ Q (.ref p) H))) := by
  rintro G H σ ρ n τ vs rs R Q e hl ⟨r, l, rfl, hr, hR⟩ k
  obtain ⟨v, rfl⟩ := len1 hl
  have e : EnvOk K B.1 B.2 G H σ ρ n (τ ++ [(v, r)]) := e
  obtain ⟨a, ws, rfl, sq, rl⟩ := tmp_seqT e.top hr
  rcases sq with sq | sq
  · exact ⟨a, ws, rfl, .inl ⟨sq, fun p hp => k _ _ _ _ hR (e.pop.pushTup hp rl)⟩⟩
  · exact ⟨a, ws, rfl, .inr ⟨SqT.of sq, k _ _ _ _ hR (e.pop.pushV (.tup sq rl))⟩⟩
def gList : G1 := fun rs R => ∃ r l, rs = [r] ∧ seqOf r = some l ∧ R (.new l)
theorem snd_list : SndC K B gList (fun xs H Q => ∃ p ys, xs = [.ref p] ∧ (SqL K H p ys ∨ SqT K H p ys) ∧ ∀ l, H l = none → Q (.ref l) (upd H l (.lst ys))) := by
  rintro G H σ ρ n τ vs rs R Q e hl ⟨r, l, rfl, hr, hR⟩ k
  obtain ⟨v, rfl⟩ := len1 hl
  have e : EnvOk K B.1 B.2 G H σ ρ n (τ ++ [(v, r)]) := e
  obtain ⟨a, ws, rfl, sq, rl⟩ := tmp_seq e.top hr
  exact ⟨a, ws, rfl, sq, fun p hp => k _ _ _ _ hR (e.pop.pushNew hp rl)⟩
/-- all(list of truth values) -/
def gAll : G1 := fun rs R => ∃ (r : RV) (l : List D) (bs : List Bool), rs = [r] ∧ listOf r = some l ∧ l = bs.map D.bl ∧ R (.val (.bl (bs.all id)))
theorem repL_bl {G : Gh} {H : Hp} : ∀ {bs : List Bool} {vs : List V}, RepL K G H vs (bs.map D.bl) → vs = bs.map V.bl
  | [], _, .nil => rfl
  | b :: bs, _, .cons r t => by
    cases r
    rw [repL_bl t]
    rfl
theorem snd_all : SndC K B gAll (rAll K) := by
  rintro G H σ ρ n τ vs rs R Q e hl ⟨r, l, bs, rfl, hr, rfl, hR⟩ k
  obtain ⟨v, rfl⟩ := len1 hl
  have e : EnvOk K B.1 B.2 G H σ ρ n (τ ++ [(v, r)]) := e
  obtain ⟨a, ws, rfl, sq, rl⟩ := tmp_list e.top hr
  have := repL_bl rl
  subst this
  exact ⟨a, bs, rfl, SqL.of sq, k _ _ _ _ hR (e.pop.pushV (.bl _))⟩
/-- isinstance(x, a built-in type) -/
def tyName : D → Option String
  | .non => some "NoneType"
  | .bl _ => some "bool"
  | .int _ => some "int"
  | .str _ => some "str"
  | .tup _ => some "tuple"
  | .lst _ => some "list"
  | .dct => some "dict"
  | .dc0 => some "dict"
  | _ => none
def gIsi : G1 := fun rs R => ∃ r m T b, rs = [r, .val (.ty m)] ∧ tyName (dOf r) = some T ∧ kitB T m = some b ∧ R (.val (.bl b))
theorem ty_of {G : Gh} {H : Hp} {v : V} {d : D} {T : String} (h : Rep K G H v d) (e : tyName d = some T) : TyX K H v (.type T) := by
  cases h with
  | non => cases e; exact .base .non
  | bl b => cases e; exact .base (.bl b)
  | int i => cases e; exact .base (.int i)
  | str x => cases e; exact .base (.str x)
  | ty x => cases e
  | tup q _ =>
    cases e
    exact .base (.tup q)
  | lst g q _ => cases e; exact .base (.lst q)
  | dct g q y =>
    cases e
    rcases y with ⟨kvs, rfl⟩ | ⟨kvs, rfl⟩
    · exact .base (.dK q)
    · exact .base (.dT q)
  | dc0 g q => cases e; exact .base (.dK q)
  | bag g => cases e
  | scr g => cases e
theorem tmp_ty {G : Gh} {H : Hp} {j : Nat} {v : V} {r : RV} {T : String} (h : TmpOk K G H j v r) (e : tyName (dOf r) = some T) : TyX K H v (.type T) := by
  cases r with
  | val d => exact ty_of h e
  | new l => obtain ⟨a, vs, rfl, g, q, rl⟩ := h; cases e; exact .base (.lst q)
  | newD t l =>
    obtain ⟨a, u, rfl, g, q, rl⟩ := h
    cases e
    rcases rl.isD with ⟨kvs, rfl⟩ | ⟨kvs, rfl⟩
    · exact .base (.dK q)
    · exact .base (.dT q)
theorem snd_isi : SndC K B gIsi (rIsi K) := by
  rintro G H σ ρ n τ vs rs R Q e hl ⟨r, m, T, b, rfl, ht, hb, hR⟩ k
  obtain ⟨v, v', rfl⟩ := len2 hl
  have e := zip2 e
  have r2 := e.topV
  cases r2
  exact ⟨v, .ty m, .type T, .type m, b, rfl, .ty m, tmp_ty e.top2 ht, kit_ty hb, k _ _ _ _ hR (e.pop.pop.pushV (.bl _))⟩
theorem de_ty {x : Str} {T : String} {pos : Pos} (hg : Gl X x) (hm : X.mg x = none) (hv : bootBuiltins x = some (.type T)) (hn : x ≠ "__name__" := by decide) (hd : (x == ("__debug__" : Str)) = false := by decide) : DE X B (.Name x pos) (wC (.ty T)) :=
  de_of (v := .ty T) (pe_bltn hg hm hv rfl hn hd) fun _ _ => .ty T
end
end Ly

namespace Ly
open PySem PySem.Spec PyProof.Rows L2

/-! ### targets -/
abbrev TDG := RV → List SV → Nat → (List SV → Nat → Prop) → Prop
abbrev TDGs := List RV → List SV → Nat → (List SV → Nat → Prop) → Prop
/-- what becomes of the slots: only those in ix are touched -/
def Kp (ix : List Nat) (σ σ' : L2.St) : Prop := ∀ vs : List Nat, (∀ i ∈ ix, i ∈ vs) → wipe σ' vs = wipe σ vs
def tDG (K : PySem.W.Frag) (B : Bs) (ix : List Nat) (w : TDG) : TG := fun v σ H Q => ∃ G ρ n τ j r Q', EnvOk K B.1 B.2 G H σ ρ n τ ∧ τ[j]? = some (v, r) ∧ w r ρ n Q' ∧
  ∀ σ' ρ' n' G' H', Q' ρ' n' → Kp ix σ σ' → EnvOk K B.1 B.2 G' H' σ' ρ' n' (τ.set j (.non, .val .non)) → Q σ' H'
def tDGs (K : PySem.W.Frag) (B : Bs) (ix : List Nat) (w : TDGs) : TGs := fun vs σ H Q => ∃ G ρ n τ j rs Q', EnvOk K B.1 B.2 G H σ ρ n (τ ++ j ++ vs.zip rs) ∧ vs.length = rs.length ∧ w rs ρ n Q' ∧
  ∀ σ' ρ' n' G' H', Q' ρ' n' → Kp ix σ σ' → EnvOk K B.1 B.2 G' H' σ' ρ' n' τ → Q σ' H'
abbrev DG (X : Cx) (B : Bs) (ix : List Nat) (e : Expr) (w : TDG) : Prop := PG X e (tDG X.K B ix w)
abbrev DGs (X : Cx) (B : Bs) (ix : List Nat) (es : List Expr) (w : TDGs) : Prop := PGs X es (tDGs X.K B ix w)
theorem wipe_get {σ : L2.St} {i : Nat} : ∀ {vs : List Nat}, (wipe σ vs)[i]? = if i ∈ vs then (if i < σ.length then some none else none) else σ[i]?
  | [] => by simp [wipe]
  | v :: vs => by
    unfold wipe
    by_cases h : v = i
    · subst h
      by_cases hl : v < σ.length
      · rw [List.getElem?_set_self (by rw [wipe_length]; exact hl)]; simp [hl]
      · rw [List.getElem?_eq_none (by rw [List.length_set, wipe_length]; omega)]; simp [hl]
    · rw [List.getElem?_set_ne h, wipe_get]
      by_cases hm : i ∈ vs
      · simp [hm]
      · simp [hm, Ne.symm h]
theorem Kp.set {σ : L2.St} {i : Nat} {x : Option V} : Kp [i] σ (σ.set i x) := fun vs h => by
  have hi : i ∈ vs := h i (by simp)
  apply List.ext_getElem?
  intro j
  rw [wipe_get, wipe_get, List.length_set]
  by_cases hj : j ∈ vs
  · simp [hj]
  · rw [if_neg hj, if_neg hj, List.getElem?_set_ne]
    exact fun e => hj (e ▸ hi)
theorem Kp.refl {ix : List Nat} {σ : L2.St} : Kp ix σ σ := fun _ _ => rfl
theorem Kp.trans {ix ix' : List Nat} {σ σ1 σ2 : L2.St} (a : Kp ix σ σ1) (b : Kp ix' σ1 σ2) : Kp (ix ++ ix') σ σ2 := fun vs h =>
  (b vs fun i hi => h i (List.mem_append_right _ hi)).trans (a vs fun i hi => h i (List.mem_append_left _ hi))
section
variable {X : Cx} {B : Bs} {a b c e : Expr} {es : List Expr} {pos : Pos} {wa wb wc we : TD} {ws : TDA} {wt wu : TDT} {wg : TDG} {wgs : TDGs} {K : PySem.W.Frag} {ix ix' : List Nat}
theorem PG.imp {X : Cx} {e : Expr} {t t' : TG} (h : PG X e t) (i : ∀ v σ H Q, t' v σ H Q → t v σ H Q) : PG X e t' := ⟨fun pins s σ H x v Q I r q => h.run pins s σ H x v Q I r (i _ _ _ _ q)⟩
theorem PGs.imp {X : Cx} {es : List Expr} {t t' : TGs} (h : PGs X es t) (i : ∀ v σ H Q, t' v σ H Q → t v σ H Q) : PGs X es t' := ⟨fun pins s σ H x v Q I r q => h.run pins s σ H x v Q I r (i _ _ _ _ q)⟩
def wgN (i : Nat) : TDG := fun r ρ n Q => Q (ρ.set i (svOf r)) n
theorem dg_name {i : Nat} (h : PG X a (gName i)) : DG X B [i] a (wgN i) := PG.imp h fun v σ H Q ⟨G, ρ, n, τ, j, r, Q', e, hj, hw, k⟩ => by
  obtain ⟨G', e'⟩ := e.assignAt (i := i) hj
  exact k _ _ _ _ _ hw Kp.set e'
def wgNil : TDGs := fun rs ρ n Q => rs = [] ∧ Q ρ n
def wgCons (wg : TDG) (wgs : TDGs) : TDGs := fun rs ρ n Q => ∃ r rs', rs = r :: rs' ∧ wg r ρ n fun ρ1 n1 => wgs rs' ρ1 n1 Q
theorem dgs_nil : DGs X B [] [] wgNil := PGs.imp pgs_nil fun vs σ H Q ⟨G, ρ, n, τ, j, rs, Q', e, hl, ⟨hr, hw⟩, k⟩ => by
  subst hr
  exact ⟨List.eq_nil_of_length_eq_zero hl, k _ _ _ _ _ hw Kp.refl e.pop.pop⟩
theorem dgs_cons (h1 : DG X B ix a wg) (h2 : DGs X B ix' es wgs) (h : PGs X (a :: es) (gCons (tDG X.K B ix wg) (tDGs X.K B ix' wgs))) : DGs X B (ix ++ ix') (a :: es) (wgCons wg wgs) :=
  PGs.imp h fun vs σ H Q ⟨G, ρ, n, τ, j, rs, Q', e, hl, ⟨r, rs', hr, hw⟩, k⟩ => by
    subst hr
    cases vs with
    | nil => simp at hl
    | cons v vs =>
      rw [List.zip_cons_cons] at e
      refine ⟨v, vs, rfl, G, ρ, n, _, (τ ++ j).length, r, _, e, by simp, hw, fun σ1 ρ1 n1 G1 H1 h1 kp e1 => ⟨G1, ρ1, n1, τ, j ++ [(.non, .val .non)], rs', Q', ?_, by simpa using hl, h1, fun σ2 ρ2 n2 G2 H2 h2 kp2 e2 => k _ _ _ _ _ h2 (kp.trans kp2) e2⟩⟩
      rw [List.set_append_right _ _ (Nat.le_refl _), Nat.sub_self, List.set_cons_zero] at e1
      rw [← List.append_assoc, List.append_assoc _ [_]]
      exact e1
/-- a, b, .. = a tuple -/
def wgTup (k : Nat) (wgs : TDGs) : TDG := fun r ρ n Q => ∃ ds, r = .val (.tup ds) ∧ ds.length = k ∧ wgs (ds.map .val) ρ n Q
theorem EnvOk.pushAll {K : PySem.W.Frag} {G0 G : Gh} {H0 H : Hp} {σ : L2.St} {ρ : List SV} {n : Nat} : ∀ {vs : List V} {ds : List D} {τ : List (V × RV)}, EnvOk K G0 H0 G H σ ρ n τ → RepL K G H vs ds → EnvOk K G0 H0 G H σ ρ n (τ ++ vs.zip (ds.map .val))
  | _, _, τ, e, .nil => by simpa using e
  | v :: vs, d :: ds, τ, e, .cons r t => by
    rw [List.map_cons, List.zip_cons_cons, List.append_cons]
    exact EnvOk.pushAll (e.pushV r) t
theorem dg_tup {k : Nat} {x1 : Nat} {pos : Pos} (h : PG X (.Tuple es x1 pos) (gTup X.K k (tDGs X.K B ix wgs))) : DG X B ix (.Tuple es x1 pos) (wgTup k wgs) :=
  PG.imp h fun v σ H Q ⟨G, ρ, n, τ, j, r, Q', e, hj, ⟨ds, hr, hk, hw⟩, k⟩ => by
    subst hr
    have rv : Rep X.K G H v (.tup ds) := e.tm j v (.val (.tup ds)) hj
    cases rv with
    | tup sq rl =>
      have hjl : j < τ.length := (List.getElem?_eq_some_iff.mp hj).1
      have e1 : EnvOk X.K B.1 B.2 G H σ ρ n (τ.set j (.non, .val .non)) := ⟨e.gr, e.ns, e.nt, e.bg, e.fh, e.ln, e.sl, fun m v' r' h => by
        by_cases hm : m = j
        · subst hm; rw [List.getElem?_set_self hjl] at h; cases h; exact Rep.non
        · rw [List.getElem?_set_ne (Ne.symm hm)] at h; exact e.tm m v' r' h⟩
      exact ⟨_, _, rfl, SqT.of sq, by rw [rl.length]; exact hk, G, ρ, n, _, [], ds.map .val, Q', by rw [List.append_nil]; exact e1.pushAll rl, by rw [rl.length, List.length_map], hw, k⟩

/-! ### what is walked -/
def ItOk (K : PySem.W.Frag) (B : Bs) (J : It) (ds : List D) (τ : List (V × RV)) : Prop := ∀ (G : Gh) (H : Hp) (σ : L2.St) (ρ : List SV) (n i : Nat), EnvOk K B.1 B.2 G H σ ρ n τ →
  (i = ds.length → J.stop i H) ∧ ∀ d, ds[i]? = some d → J.go i H ∧ ∀ x H', J.yld i H x H' → ∃ G', EnvOk K B.1 B.2 G' H' σ ρ n (τ ++ [(x, .val d)])
abbrev TDI := List SV → Nat → (List D → List SV → Nat → Prop) → Prop
def tDI (K : PySem.W.Frag) (B : Bs) (w : TDI) : TI := fun σ H R => ∃ G ρ n τ Q', EnvOk K B.1 B.2 G H σ ρ n τ ∧ w ρ n Q' ∧
  ∀ ds ρ' n' τ' J G' H', Q' ds ρ' n' → (∀ τ'', ItOk K B J ds (τ ++ τ' ++ τ'')) → EnvOk K B.1 B.2 G' H' σ ρ' n' (τ ++ τ') → R J H'
abbrev DI (X : Cx) (B : Bs) (tg e : Expr) (w : TDI) : Prop := PI X tg e (tDI X.K B w)
theorem PI.imp {X : Cx} {tg e : Expr} {t t' : TI} (h : PI X tg e t) (i : ∀ σ H R, t' σ H R → t σ H R) : PI X tg e t' := ⟨fun pins s σ H R I q => h.run pins s σ H R I (i _ _ _ q)⟩
/-- a list or a tuple -/
def iSeq (K : PySem.W.Frag) (tl : TE) : TI := fun σ H R => tl σ H fun x H1 => ∃ p, x = .ref p ∧ (((∃ xs, SqL K H1 p xs) ∧ R (Itl K p) H1) ∨ ((∃ xs, SqT K H1 p xs) ∧ R (Itt K p) H1))
theorem pi_seq {tg l : Expr} {tl : TE} (hl : PE X l tl) : PI X tg l (iSeq X.K tl) := by
  refine ⟨fun pins st sl Hp0 R I0 hh => ?_⟩
  refine thn (hl.run pins st sl Hp0 _ I0 hh) fun vv s1 ⟨x, H1, I1, r1, p, ex, q⟩ => ?_
  subst ex
  cases r1
  rcases q with ⟨⟨xs, hq⟩, q⟩ | ⟨⟨xs, hq⟩, q⟩
  · obtain ⟨its, rv, pl, hz⟩ := I1.list hq
    refine wpAny_pyIter_list pl.isList ⟨s1.heap.objs.size, [s1.heap.objs.size], _, _, H1, rfl, I1.kept (t' := s1.toks) fun b o y => Heap.get?_push_of_some _ y, turn_list p _, ⟨_, Heap.get?_push_size _ rfl, rfl, rfl⟩, fun b hb => ?_, q⟩
    obtain rfl : b = s1.heap.objs.size := by simpa using hb
    exact I1.fpOk (Nat.le_refl _) (I1.hok.fresh (Nat.le_refl _))
  · obtain ⟨its, rv, pl, hz⟩ := I1.tuple hq
    refine wpAny_pyIter_tuple (show s1.heap.IsTuple p its.toArray from pl) ⟨s1.heap.objs.size, [s1.heap.objs.size], _, _, H1, rfl, I1.kept (t' := s1.toks) fun b o y => Heap.get?_push_of_some _ y, turn_tuple p _, ⟨_, Heap.get?_push_size _ rfl, rfl, rfl⟩, fun b hb => ?_, q⟩
    obtain rfl : b = s1.heap.objs.size := by simpa using hb
    exact I1.fpOk (Nat.le_refl _) (I1.hok.fresh (Nat.le_refl _))
def wiSeq (w : TD) : TDI := fun ρ n Q => w ρ n fun r ρ1 n1 => ∃ l, seqOf r = some l ∧ Q l ρ1 n1
theorem EnvOk.tmAt {K : PySem.W.Frag} {G0 G : Gh} {H0 H : Hp} {σ : L2.St} {ρ : List SV} {n : Nat} {τ τ' : List (V × RV)} {v : V} {d : D} (e : EnvOk K G0 H0 G H σ ρ n (τ ++ [(v, .val d)] ++ τ')) : Rep K G H v d := e.pop.topV
theorem itOk_list {p : Addr} {l : List D} {τ τ'' : List (V × RV)} : ItOk K B (Itl K p) l (τ ++ [(.ref p, .val (.lst l))] ++ τ'') := fun G H σ ρ n i e => by
  have rv := e.tmAt
  cases rv with
  | lst g q rl =>
    refine ⟨fun hi => ⟨_, SqL.of q, by rw [rl.length]; omega⟩, fun d hd => ?_⟩
    obtain ⟨v, hv, rep⟩ := rl.get hd
    refine ⟨⟨_, v, SqL.of q, hv⟩, fun x H' ⟨eH, hx⟩ => ?_⟩
    subst eH
    have := hx _ (SqL.of q)
    rw [hv] at this
    cases this
    exact ⟨G, e.pushV rep⟩
theorem itOk_tup {p : Addr} {l : List D} {τ τ'' : List (V × RV)} : ItOk K B (Itt K p) l (τ ++ [(.ref p, .val (.tup l))] ++ τ'') := fun G H σ ρ n i e => by
  have rv := e.tmAt
  cases rv with
  | tup q rl =>
    replace q := SqT.of (K := K) q
    refine ⟨fun hi => ⟨_, q, by rw [rl.length]; omega⟩, fun d hd => ?_⟩
    obtain ⟨v, hv, rep⟩ := rl.get hd
    refine ⟨⟨_, v, q, hv⟩, fun x H' ⟨eH, hx⟩ => ?_⟩
    subst eH
    have := hx _ q
    rw [hv] at this
    cases this
    exact ⟨G, e.pushV rep⟩
theorem di_seq {tg : Expr} (ha : DE X B a wa) : DI X B tg a (wiSeq wa) :=
  PI.imp (pi_seq ha) fun σ H R ⟨G, ρ, n, τ, Q', e, hw, k⟩ => ⟨G, ρ, n, τ, _, e, hw, fun r ρ1 n1 v G1 H1 ⟨l, hl, h1⟩ e1 => by
    obtain ⟨G2, x2, e2⟩ := e1.freeze
    rw [frz_val] at e2
    have rv := e2.topV
    cases r with
    | newD t m => cases hl
    | new l' =>
      cases hl
      cases rv with
      | lst g q rl => exact ⟨_, rfl, .inl ⟨⟨_, SqL.of q⟩, k l ρ1 n1 _ _ _ _ h1 (fun _ => itOk_list) e2⟩⟩
    | val d =>
      cases d with
      | lst l' => cases hl; cases rv with | lst g q rl => exact ⟨_, rfl, .inl ⟨⟨_, SqL.of q⟩, k l ρ1 n1 _ _ _ _ h1 (fun _ => itOk_list) e2⟩⟩
      | tup l' => cases hl; cases rv with | tup q rl => exact ⟨_, rfl, .inr ⟨⟨_, SqT.of q⟩, k l ρ1 n1 _ _ _ _ h1 (fun _ => itOk_tup) e2⟩⟩
      | _ => cases hl⟩
/-- range(n), range(a, b) -/
def rgD (lo : Int) (n : Nat) : List D := (List.range n).map fun i => D.int (lo + (i : Nat))
theorem itOk_rng {lo : Int} {m : Nat} {τ : List (V × RV)} : ItOk K B (Itr lo m) (rgD lo m) τ := fun G H σ ρ n i e => by
  unfold rgD
  refine ⟨fun hi => by rw [List.length_map, List.length_range] at hi; exact Nat.le_of_eq hi.symm, fun d hd => ?_⟩
  rw [List.getElem?_map] at hd
  have hi : i < m := by
    by_cases h : i < m
    · exact h
    · rw [List.getElem?_eq_none (by rw [List.length_range]; omega)] at hd; cases hd
  rw [List.getElem?_range hi] at hd
  cases hd
  refine ⟨hi, fun x H' ⟨eH, hx⟩ => ?_⟩
  subst eH hx
  exact ⟨G, e.pushV (.int _)⟩
def wiR1 (w : TDA) : TDI := fun ρ n Q => w ρ n fun rs ρ1 n1 => ∃ j, rs = [.val (.int j)] ∧ (-(2 ^ 62) ≤ j ∧ j < 2 ^ 62) ∧ Q (rgD 0 j.toNat) ρ1 n1
theorem di_r1 {tg : Expr} {p pos : Pos} (hg : Gl X "range") (hm : X.mg "range" = none) (ha : DA X B [a] ws) (hs : starEach [a] X.env = [(false, eval a X.env)] := by rfl) : DI X B tg (.Call (.Name "range" p) [a] [] pos) (wiR1 ws) :=
  PI.imp (pi_range1 hg hm ha hs) fun σ H R ⟨G, ρ, n, τ, Q', e, hw, k⟩ => ⟨G, ρ, n, τ, _, e, hw, fun rs ρ1 n1 vs G1 H1 ⟨j, hr, hb, h1⟩ hl e1 => by
    subst hr
    obtain ⟨v, rfl⟩ := len1 hl
    have e1 : EnvOk X.K B.1 B.2 G1 H1 σ ρ1 n1 (τ ++ [(v, _)]) := e1
    have rv := e1.topV
    cases rv
    exact ⟨j, rfl, hb.1, hb.2, k _ ρ1 n1 [] _ _ _ h1 (fun _ => itOk_rng) (by rw [List.append_nil]; exact e1.pop)⟩⟩
def wiR2 (w : TDA) : TDI := fun ρ n Q => w ρ n fun rs ρ1 n1 => ∃ i j, rs = [.val (.int i), .val (.int j)] ∧ (-(2 ^ 62) ≤ i ∧ i < 2 ^ 62 ∧ -(2 ^ 62) ≤ j ∧ j < 2 ^ 62) ∧ Q (rgD i (j - i).toNat) ρ1 n1
theorem di_r2 {tg : Expr} {p pos : Pos} (hg : Gl X "range") (hm : X.mg "range" = none) (ha : DA X B [a, b] ws) (hs : starEach [a, b] X.env = [(false, eval a X.env), (false, eval b X.env)] := by rfl) (hs2 : starEach [b] X.env = [(false, eval b X.env)] := by rfl) : DI X B tg (.Call (.Name "range" p) [a, b] [] pos) (wiR2 ws) :=
  PI.imp (pi_range2 hg hm ha hs hs2) fun σ H R ⟨G, ρ, n, τ, Q', e, hw, k⟩ => ⟨G, ρ, n, τ, _, e, hw, fun rs ρ1 n1 vs G1 H1 ⟨i, j, hr, hb, h1⟩ hl e1 => by
    subst hr
    obtain ⟨v, v', rfl⟩ := len2 hl
    have e1 := zip2 e1
    have r2 := e1.topV
    have r1 := e1.pop.topV
    cases r1
    cases r2
    exact ⟨i, j, rfl, hb, k _ ρ1 n1 [] _ _ _ h1 (fun _ => itOk_rng) (by rw [List.append_nil]; exact e1.pop.pop)⟩⟩
end
end Ly

namespace Ly
open PySem PySem.Spec PyProof.Rows L2
section
variable {X : Cx} {B : Bs} {a b c e : Expr} {es : List Expr} {pos : Pos} {wa wb wc we : TD} {ws : TDA} {wt wu : TDT} {wg : TDG} {wgs : TDGs} {K : PySem.W.Frag} {ix ix' : List Nat} {st : Stmt} {sts : List Stmt} {w1 w2 : TDS} {wi : TDI}

/-! ### statements -/
def wSkip : TDS := fun E ρ n => E.nx ρ n
def wSeq (w1 w2 : TDS) : TDS := fun E ρ n => w1 { E with nx := fun ρ1 n1 => w2 E ρ1 n1 } ρ n
theorem dss_nil : DSs X B [] wSkip := PSs.imp pss_nil fun D σ H ⟨G, ρ, n, τ, D', e, hw, k, _⟩ => k _ _ _ _ _ hw e
theorem dss_one (h : DS X B st w1) : DSs X B [st] w1 := pss_one h
theorem dss_cons (h1 : DS X B st w1) (h2 : DSs X B sts w2) : DSs X B (st :: sts) (wSeq w1 w2) :=
  PSs.imp (pss_cons h1 h2) fun D σ H ⟨G, ρ, n, τ, D', e, hw, k1, k2, k3, k4⟩ => ⟨G, ρ, n, τ, { D' with nx := fun ρ1 n1 => w2 D' ρ1 n1 }, e, hw, fun σ' ρ' n' G' H' h e' => ⟨G', ρ', n', τ, D', e', h, k1, k2, k3, k4⟩, k2, k3, k4⟩
theorem ds_pass : DS X B (.Pass pos) wSkip := PS.imp ps_pass fun D σ H ⟨G, ρ, n, τ, D', e, hw, k, _⟩ => k _ _ _ _ _ hw e
def wBreak : TDS := fun E ρ n => E.bk ρ n
def wCont : TDS := fun E ρ n => E.ct ρ n
theorem ds_break : DS X B (.Break pos) wBreak := PS.imp ps_break fun D σ H ⟨G, ρ, n, τ, D', e, hw, _, _, k, _⟩ => k _ _ _ _ _ hw e
theorem ds_cont : DS X B (.Continue pos) wCont := PS.imp ps_continue fun D σ H ⟨G, ρ, n, τ, D', e, hw, _, _, _, k⟩ => k _ _ _ _ _ hw e
theorem ds_doc {x j pos pos'} : DS X B (.Expr (.Constant (.str x) j pos) pos') wSkip := PS.imp ps_doc fun D σ H ⟨G, ρ, n, τ, D', e, hw, k, _⟩ => k _ _ _ _ _ hw e
def wDrop (w : TD) : TDS := fun E ρ n => w ρ n fun _ ρ1 n1 => E.nx ρ1 n1
theorem ds_expr (he : DE X B e we) (hs : swapsWith e none pos.line X.env = pure false := by rfl) : DS X B (.Expr e pos) (wDrop we) :=
  PS.imp (ps_expr he hs) fun D σ H ⟨G, ρ, n, τ, D', e, hw, k, _⟩ => ⟨G, ρ, n, τ, _, e, hw, fun r ρ' n' v G' H' h e' => k _ _ _ _ _ h e'.pop⟩
def wRet (w : TD) : TDS := fun E ρ n => w ρ n fun r _ n1 => E.rt (dOf r) n1
theorem ds_ret (he : DE X B e we) : DS X B (.Return (some e) pos) (wRet we) :=
  PS.imp (ps_ret he) fun D σ H ⟨G, ρ, n, τ, D', e, hw, _, k, _⟩ => ⟨G, ρ, n, τ, _, e, hw, fun r ρ' n' v G' H' h e' => by
    obtain ⟨G2, x2, e2⟩ := e'.freeze
    rw [frz_val] at e2
    exact k _ _ _ _ _ _ _ h e2.topV e2.pop⟩
def wRetN : TDS := fun E _ n => E.rt .non n
theorem ds_retN : DS X B (.Return none pos) wRetN := PS.imp ps_retN fun D σ H ⟨G, ρ, n, τ, D', e, hw, _, k, _⟩ => k _ _ _ _ _ _ _ hw .non e
def wIfS (w : TDT) (w1 w2 : TDS) : TDS := fun E ρ n => w ρ n fun b ρ1 n1 => if b = true then w1 E ρ1 n1 else w2 E ρ1 n1
theorem ds_if {x y : List Stmt} (hc : DT X B c wt) (ha : DSs X B x w1) (hb : DSs X B y w2) : DS X B (.If c x y pos) (wIfS wt w1 w2) :=
  PS.imp (ps_if hc ha hb) fun D σ H ⟨G, ρ, n, τ, D', e, hw, k⟩ => ⟨G, ρ, n, τ, _, e, hw, fun b ρ' n' G' H' h e' => by
    cases b with
    | true => exact iteT ⟨G', ρ', n', τ, D', e', by simpa using h, k⟩
    | false => exact iteF ⟨G', ρ', n', τ, D', e', by simpa using h, k⟩⟩
/-- name = e -/
def wSet (i : Nat) (w : TD) : TDS := fun E ρ n => w ρ n fun r ρ1 n1 => E.nx (ρ1.set i (svOf r)) n1
theorem ds_set {i : Nat} {tg : Expr} (h : PS X (.Assign [tg] e pos) (tAsg (tD X.K B we) (gName i))) : DS X B (.Assign [tg] e pos) (wSet i we) :=
  PS.imp h fun D σ H ⟨G, ρ, n, τ, D', e, hw, k, _⟩ => ⟨G, ρ, n, τ, _, e, hw, fun r ρ' n' v G' H' h e' => by
    obtain ⟨G2, e2⟩ := e'.assign' (i := i)
    exact k _ _ _ _ _ h e2⟩
/-- target = e -/
def wAsg (w : TD) (wg : TDG) : TDS := fun E ρ n => w ρ n fun r ρ1 n1 => wg r ρ1 n1 fun ρ2 n2 => E.nx ρ2 n2
theorem EnvOk.unset {G0 G : Gh} {H0 H : Hp} {σ : L2.St} {ρ : List SV} {n : Nat} {τ : List (V × RV)} {v : V} {r : RV} (e : EnvOk K G0 H0 G H σ ρ n ((τ ++ [(v, r)]).set τ.length (.non, .val .non))) : EnvOk K G0 H0 G H σ ρ n τ := by
  rw [List.set_append_right _ _ (Nat.le_refl _)] at e
  exact e.pop
theorem ds_asg {tg : Expr} (h : PS X (.Assign [tg] e pos) (tAsg (tD X.K B we) (tDG X.K B ix wg))) : DS X B (.Assign [tg] e pos) (wAsg we wg) :=
  PS.imp h fun D σ H ⟨G, ρ, n, τ, D', e, hw, k, _⟩ => ⟨G, ρ, n, τ, _, e, hw, fun r ρ' n' v G' H' h e' => ⟨G', ρ', n', _, τ.length, r, _, e', by simp, h, fun σ2 ρ2 n2 G2 H2 h2 _ e2 => k _ _ _ _ _ h2 e2.unset⟩⟩
theorem EnvOk.sub {G0 G : Gh} {H0 H : Hp} {σ : L2.St} {ρ : List SV} {n : Nat} {τ τ' : List (V × RV)} (e : EnvOk K G0 H0 G H σ ρ n τ') (h : ∀ (j : Nat) (x : V × RV), τ[j]? = some x → τ'[j]? = some x) : EnvOk K G0 H0 G H σ ρ n τ :=
  ⟨e.gr, e.ns, e.nt, e.bg, e.fh, e.ln, e.sl, fun j v r q => e.tm j v r (h _ _ q)⟩
/-- a, b = x, y and a, b, c = x, y, z of plain names -/
def wPar2 (i j : Nat) (ws : TDA) : TDS := fun E ρ n => ws ρ n fun rs ρ1 n1 => ∃ r s, rs = [r, s] ∧ E.nx ((ρ1.set i (svOf r)).set j (svOf s)) n1
theorem ds_par2 {i j : Nat} (h : PS X st (tPar i j (tDA X.K B ws))) : DS X B st (wPar2 i j ws) :=
  PS.imp h fun D σ H ⟨G, ρ, n, τ, D', e, hw, k, _⟩ => ⟨G, ρ, n, τ, _, e, hw, fun rs ρ' n' vs G' H' ⟨r, s, hr, h1⟩ hl e' => by
    subst hr
    obtain ⟨v, v', rfl⟩ := len2 hl
    have e1 := zip2 e'
    obtain ⟨G2, e2⟩ := e1.assignAt (j := τ.length) (i := i) (v := v) (r := r) (by simp)
    obtain ⟨G3, e3⟩ := e2.assignAt (j := τ.length + 1) (i := j) (v := v') (r := s) (by simp)
    refine ⟨v, v', rfl, k _ _ _ G3 H' h1 (e3.sub fun m x hm => ?_)⟩
    have hml := (List.getElem?_eq_some_iff.mp hm).1
    rw [List.getElem?_set_ne (by omega), List.getElem?_set_ne (by omega), List.append_assoc, List.getElem?_append_left hml]
    exact hm⟩
def wPar3 (i j l : Nat) (ws : TDA) : TDS := fun E ρ n => ws ρ n fun rs ρ1 n1 => ∃ r s t, rs = [r, s, t] ∧ E.nx (((ρ1.set i (svOf r)).set j (svOf s)).set l (svOf t)) n1
theorem len3 {α β : Type} {vs : List α} {r r' r'' : β} (h : vs.length = [r, r', r''].length) : ∃ v v' v'', vs = [v, v', v''] := by
  cases vs with
  | nil => cases h
  | cons v vs => cases vs with
    | nil => simp at h
    | cons v' vs => cases vs with
      | nil => simp at h
      | cons v'' vs => cases vs with
        | nil => exact ⟨v, v', v'', rfl⟩
        | cons _ _ => simp at h
theorem zip3 {G0 G : Gh} {H0 H : Hp} {σ : L2.St} {ρ : List SV} {n : Nat} {τ : List (V × RV)} {v v' v'' : V} {r r' r'' : RV} (e : EnvOk K G0 H0 G H σ ρ n (τ ++ [v, v', v''].zip [r, r', r''])) : EnvOk K G0 H0 G H σ ρ n (τ ++ [(v, r), (v', r'), (v'', r'')]) := e
theorem ds_par3 {i j l : Nat} (h : PS X st (tPar3 i j l (tDA X.K B ws))) : DS X B st (wPar3 i j l ws) :=
  PS.imp h fun D σ H ⟨G, ρ, n, τ, D', e, hw, k, _⟩ => ⟨G, ρ, n, τ, _, e, hw, fun rs ρ' n' vs G' H' ⟨r, s, t, hr, h1⟩ hl e' => by
    subst hr
    obtain ⟨v, v', v'', rfl⟩ := len3 hl
    have e1 := zip3 e'
    obtain ⟨G2, e2⟩ := e1.assignAt (j := τ.length) (i := i) (v := v) (r := r) (by simp)
    obtain ⟨G3, e3⟩ := e2.assignAt (j := τ.length + 1) (i := j) (v := v') (r := s) (by simp)
    obtain ⟨G4, e4⟩ := e3.assignAt (j := τ.length + 2) (i := l) (v := v'') (r := t) (by simp)
    refine ⟨v, v', v'', rfl, k _ _ _ G4 H' h1 (e4.sub fun m x hm => ?_)⟩
    have hml := (List.getElem?_eq_some_iff.mp hm).1
    rw [List.getElem?_set_ne (by omega), List.getElem?_set_ne (by omega), List.getElem?_set_ne (by omega), List.getElem?_append_left hml]
    exact hm⟩
/-! ### loops -/
def loopD (wg : TDG) (wb : TDS) : List D → TDS
  | [] => fun E ρ n => E.nx ρ n
  | d :: ds => fun E ρ n => wg (.val d) ρ n fun ρ1 n1 => wb { nx := fun ρ2 n2 => loopD wg wb ds E ρ2 n2, rt := E.rt, bk := E.nx, ct := fun ρ2 n2 => loopD wg wb ds E ρ2 n2 } ρ1 n1
def wFor (wi : TDI) (wg : TDG) (wb : TDS) : TDS := fun E ρ n => wi ρ n fun ds ρ1 n1 => loopD wg wb ds E ρ1 n1
theorem ds_for {tg iter : Expr} {body : List Stmt} (hp : PassesOwn (model X.prog X.w) X.A X.env X.xe) (hc : X.calm = true) (hi : DI X B tg iter wi) (hg : DG X B ix tg wg) (hb : DSs X B body w1) (hs : ∀ x, foldedSetIterable iter X.env x = pure x := by intro _; rfl) :
    DS X B (.For tg iter body [] pos) (wFor wi wg w1) :=
  PS.imp (ps_for hp hc hi hg hb hs) fun D σ H ⟨G, ρ, n, τ, D', e, hw, k1, k2, k3, k4⟩ => ⟨G, ρ, n, τ, _, e, hw, fun ds ρ' n' τ' J G' H' h ok e' => by
    have ok := ok []
    rw [List.append_nil] at ok
    refine ⟨fun i m σ H => m = ds.length - i ∧ i ≤ ds.length ∧ ∃ G ρ n, EnvOk X.K B.1 B.2 G H σ ρ n (τ ++ τ') ∧ loopD wg w1 (ds.drop i) D' ρ n, ⟨_, rfl, Nat.zero_le _, G', ρ', n', e', h⟩, ?_⟩
    rintro i m σ1 H1 ⟨rfl, hi, G1, ρ1, n1, e1, h1⟩
    by_cases hlt : i < ds.length
    · have hd : ds[i]? = some ds[i] := List.getElem?_eq_getElem hlt
      obtain ⟨go, yl⟩ := (ok G1 H1 σ1 ρ1 n1 i e1).2 _ hd
      rw [List.drop_eq_getElem_cons hlt] at h1
      refine .inr ⟨go, fun σ H => (i + 1) ≤ ds.length ∧ ∃ G ρ n, EnvOk X.K B.1 B.2 G H σ ρ n (τ ++ τ') ∧ loopD wg w1 (ds.drop (i + 1)) D' ρ n, fun σ2 H2 h2 => ⟨ds.length - (i + 1), by omega, rfl, h2⟩, fun x H2 y => ?_⟩
      obtain ⟨G2, e2⟩ := yl x H2 y
      refine ⟨G2, ρ1, n1, _, (τ ++ τ').length, _, _, e2, by simp, h1, fun σ3 ρ3 n3 G3 H3 h3 _ e3 => ⟨G3, ρ3, n3, τ ++ τ', _, e3.unset, h3, fun σ4 ρ4 n4 G4 H4 h4 e4 => ⟨hlt, G4, ρ4, n4, e4, h4⟩, fun d n4 v G4 H4 σ4 ρ4 h4 r4 e4 => k2 _ _ _ _ _ _ _ h4 r4 e4.pop, fun σ4 ρ4 n4 G4 H4 h4 e4 => k1 _ _ _ _ _ h4 e4.pop, fun σ4 ρ4 n4 G4 H4 h4 e4 => ⟨hlt, G4, ρ4, n4, e4, h4⟩⟩⟩
    · have hi' : i = ds.length := by omega
      subst hi'
      rw [List.drop_length] at h1
      exact .inl ⟨(ok G1 H1 σ1 ρ1 n1 _ e1).1 rfl, k1 _ _ _ _ _ h1 e1.pop⟩⟩

/-! ### comprehensions -/
def wipeD (ρ : List SV) : List Nat → List SV
  | [] => ρ
  | v :: vs => (wipeD ρ vs).set v .un
theorem wipeD_length (ρ : List SV) : ∀ vs : List Nat, (wipeD ρ vs).length = ρ.length
  | [] => rfl
  | v :: vs => by unfold wipeD; rw [List.length_set, wipeD_length ρ vs]
theorem wipeD_get {ρ : List SV} {i : Nat} : ∀ {vs : List Nat}, (wipeD ρ vs)[i]? = if i ∈ vs then (if i < ρ.length then some .un else none) else ρ[i]?
  | [] => by simp [wipeD]
  | v :: vs => by
    unfold wipeD
    by_cases h : v = i
    · subst h
      by_cases hl : v < ρ.length
      · rw [List.getElem?_set_self (by rw [wipeD_length]; exact hl)]; simp [hl]
      · rw [List.getElem?_eq_none (by rw [List.length_set, wipeD_length]; omega)]; simp [hl]
    · rw [List.getElem?_set_ne h, wipeD_get]
      by_cases hm : i ∈ vs
      · simp [hm]
      · simp [hm, Ne.symm h]
/-- the state with some names forgotten; the same with other values in these -/
theorem EnvOk.wiped {G0 G : Gh} {H0 H : Hp} {σ σ' : L2.St} {ρ : List SV} {n : Nat} {τ : List (V × RV)} {vs : List Nat} (e : EnvOk K G0 H0 G H σ ρ n τ) (hs : wipe σ' vs = wipe σ vs) : EnvOk K G0 H0 G H σ' (wipeD ρ vs) n τ := by
  have hlen : σ'.length = σ.length := by rw [← wipe_length σ' vs, hs, wipe_length]
  refine ⟨e.gr, e.ns, e.nt, e.bg, e.fh, by rw [wipeD_length, e.ln, hlen], fun i s h => ?_, e.tm⟩
  rw [wipeD_get] at h
  by_cases hi : i ∈ vs
  · rw [if_pos hi] at h
    split at h
    · cases h; trivial
    · cases h
  · rw [if_neg hi] at h
    have e1 : σ'[i]? = σ[i]? := by
      have := congrArg (fun l => l[i]?) hs
      simp only [wipe_get, if_neg hi] at this
      exact this
    rw [e1]
    exact e.sl i s h
theorem wipe_wipe (σ : L2.St) (vs : List Nat) : wipe (wipe σ vs) vs = wipe σ vs := by
  apply List.ext_getElem?
  intro j
  rw [wipe_get, wipe_length]
  by_cases h : j ∈ vs
  · rw [if_pos h, wipe_get, if_pos h]
  · rw [if_neg h]
def compD (wg : TDG) (wt : TDT) (we : TD) (vs : List Nat) : List D → List D → (List D → List SV → Nat → Prop) → List SV → Nat → Prop
  | [], acc, Q => fun ρ n => Q acc ρ n
  | d :: ds, acc, Q => fun ρ n => wg (.val d) ρ n fun ρ1 n1 => wt ρ1 n1 fun b ρ2 n2 =>
      if b = true then we ρ2 n2 fun r ρ3 n3 => acc.length < sizeLine ∧ compD wg wt we vs ds (acc ++ [dOf r]) Q (wipeD ρ3 vs) n3 else compD wg wt we vs ds acc Q (wipeD ρ2 vs) n2
def wLc (wi : TDI) (wg : TDG) (wt : TDT) (we : TD) (vs : List Nat) : TD := fun ρ n Q => wi ρ n fun ds ρ1 n1 => compD wg wt we vs ds [] (fun l ρ2 n2 => Q (.new l) (wipeD ρ2 vs) n2) (wipeD ρ1 vs) n1
theorem tLc_of {vs : List Nat} (hix : ∀ i ∈ ix, i ∈ vs) {σ : L2.St} {H : Hp} {Q : VK} (h : tD K B (wLc wi wg wt we vs) σ H Q) : tLc (tDI K B wi) (tDG K B ix wg) (tDT K B wt) (tD K B we) vs σ H Q := by
  obtain ⟨G, ρ, n, τ, Q', e, hw, k⟩ := h
  refine ⟨G, ρ, n, τ, _, e, hw, fun ds ρ' n' τ' J G' H' h ok e' Dd hD => ?_⟩
  have e0 : EnvOk K B.1 B.2 _ (upd H' Dd (.lst [])) (wipe σ vs) (wipeD ρ' vs) n' (τ ++ τ' ++ [(.ref Dd, .new [])]) := (e'.wiped (wipe_wipe σ vs)).pushNew hD .nil
  refine ⟨fun i m H => m = ds.length - i ∧ i ≤ ds.length ∧ ∃ G ρ n acc, EnvOk K B.1 B.2 G H (wipe σ vs) ρ n (τ ++ τ' ++ [(.ref Dd, .new acc)]) ∧ compD wg wt we vs (ds.drop i) acc (fun l ρ2 n2 => Q' (.new l) (wipeD ρ2 vs) n2) ρ n, ⟨_, rfl, Nat.zero_le _, _, _, n', [], e0, h⟩, ?_⟩
  rintro i m H1 ⟨rfl, hi, G1, ρ1, n1, acc, e1, h1⟩
  have ok1 := ok [(.ref Dd, .new acc)]
  by_cases hlt : i < ds.length
  · have hd : ds[i]? = some ds[i] := List.getElem?_eq_getElem hlt
    obtain ⟨go, yl⟩ := (ok1 G1 H1 _ ρ1 n1 i e1).2 _ hd
    rw [List.drop_eq_getElem_cons hlt] at h1
    refine .inr ⟨go, fun H => (i + 1) ≤ ds.length ∧ ∃ G ρ n acc, EnvOk K B.1 B.2 G H (wipe σ vs) ρ n (τ ++ τ' ++ [(.ref Dd, .new acc)]) ∧ compD wg wt we vs (ds.drop (i + 1)) acc (fun l ρ2 n2 => Q' (.new l) (wipeD ρ2 vs) n2) ρ n, fun H2 h2 => ⟨ds.length - (i + 1), by omega, rfl, h2⟩, fun x H2 y => ?_⟩
    obtain ⟨G2, e2⟩ := yl x H2 y
    refine ⟨G2, ρ1, n1, _, (τ ++ τ' ++ [(V.ref Dd, RV.new acc)]).length, _, _, e2, by simp, h1, fun σ3 ρ3 n3 G3 H3 h3 kp e3 => ?_⟩
    have hk : wipe σ3 vs = wipe σ vs := (kp vs hix).trans (wipe_wipe σ vs)
    refine ⟨hk, G3, ρ3, n3, _, _, e3.unset, h3, fun b ρ4 n4 G4 H4 h4 e4 => ?_⟩
    cases b with
    | false =>
      refine iteF ?_
      refine ⟨hlt, G4, _, n4, acc, e4.wiped (vs := vs) ?_, by simpa using h4⟩
      rw [hk, wipe_wipe]
    | true =>
      refine iteT ?_
      have h4' : we ρ4 n4 (fun r ρ3 n3 => acc.length < sizeLine ∧ compD wg wt we vs (ds.drop (i + 1)) (acc ++ [dOf r]) (fun l ρ2 n2 => Q' (.new l) (wipeD ρ2 vs) n2) (wipeD ρ3 vs) n3) := by simpa using h4
      refine ⟨G4, ρ4, n4, _, _, e4, h4', fun r ρ5 n5 v G5 H5 ⟨hz, h5⟩ e5 => ?_⟩
      obtain ⟨G6, x6, e6⟩ := e5.freeze
      rw [frz_val] at e6
      obtain ⟨a', ws, ea, g, ha, rl⟩ := e6.top2
      cases ea
      refine ⟨ws, ha, by rw [rl.length]; exact hz, hlt, G6, _, n5, acc ++ [dOf r], (EnvOk.grow (e6.pop.wiped (vs := vs) ?_) ha e6.topV), h5⟩
      rw [hk, wipe_wipe]
  · have hi' : i = ds.length := by omega
    subst hi'
    rw [List.drop_length] at h1
    obtain ⟨G2, e2⟩ := (e1.wiped (σ' := σ) (vs := vs) (wipe_wipe σ vs).symm).mid
    exact .inl ⟨(ok1 G1 H1 _ ρ1 n1 _ e1).1 rfl, k _ _ _ _ _ _ h1 e2⟩
end
end Ly

namespace Ly
open PySem PySem.Spec PyProof.Rows L2
section
variable {X : Cx} {B : Bs} {a b c e elt tg iter : Expr} {es : List Expr} {pos : Pos} {wa wb wc we : TD} {ws : TDA} {wt wu : TDT} {wg : TDG} {wgs : TDGs} {K : PySem.W.Frag} {ix ix' : List Nat} {st : Stmt} {sts : List Stmt} {w1 w2 : TDS} {wi : TDI} {ifs : List Expr} {scope : Scope} {own : List (Str × Nat)}

/-! ### comprehensions, as values and given to names -/
theorem de_lc {vs : List Nat} (hv : own.map (·.2) = vs) (hix : ∀ i ∈ ix, i ∈ vs) (h : PE X (.ListComp elt [⟨tg, iter, ifs, 0⟩] scope pos) (tLc (tDI X.K B wi) (tDG X.K B ix wg) (tDT X.K B wt) (tD X.K B we) (own.map (·.2)))) :
    DE X B (.ListComp elt [⟨tg, iter, ifs, 0⟩] scope pos) (wLc wi wg wt we vs) := PE.imp h fun _ _ _ q => by subst hv; exact tLc_of hix q
def wYes : TDT := fun ρ n Q => Q true ρ n
theorem dts_nil : PTs X [] (tDT X.K B wYes) := ⟨fun pins s σ H Q I ⟨G, ρ, n, τ, Q', e, hw, k⟩ => pts_nil.run pins s σ H Q I (k _ _ _ _ _ hw e)⟩
theorem dts_one (h : DT X B c wt) : PTs X [c] (tDT X.K B wt) := pts_one h
theorem ds_setLc {i : Nat} {vs : List Nat} {y : Str} {py spos : Pos} (hv : own.map (·.2) = vs) (hix : ∀ i ∈ ix, i ∈ vs) (h : PS X (.Assign [.Name y py] (.ListComp elt [⟨tg, iter, ifs, 0⟩] scope pos) spos) (tAsg (tLc (tDI X.K B wi) (tDG X.K B ix wg) (tDT X.K B wt) (tD X.K B we) (own.map (·.2))) (gName i))) :
    DS X B (.Assign [.Name y py] (.ListComp elt [⟨tg, iter, ifs, 0⟩] scope pos) spos) (wSet i (wLc wi wg wt we vs)) :=
  ds_set (PS.imp h fun D σ H q => by subst hv; exact tLc_of hix q)

/-! ### methods of a name's own list -/
theorem own_at {G0 G : Gh} {H0 H : Hp} {σ : L2.St} {ρ : List SV} {n : Nat} {τ : List (V × RV)} {i : Nat} {l : List D} (e : EnvOk K G0 H0 G H σ ρ n τ) (h : ρ[i]? = some (.own l)) : ∃ a vs, σ[i]? = some (some (.ref a)) ∧ G a = .slot i ∧ H a = some (.lst vs) ∧ RepL K G H vs l := e.sl i _ h
def wApp (i : Nat) (w : TD) : TD := fun ρ n Q => (∃ l, ρ[i]? = some (.own l)) ∧ w ρ n fun r ρ1 n1 => ∃ l, ρ1[i]? = some (.own l) ∧ l.length < sizeLine ∧ Q (.val .non) (ρ1.set i (.own (l ++ [dOf r]))) n1
theorem de_app {i : Nat} (h : PE X e (tBM X.K "list" rAppend (tVar i) (tCons (tD X.K B wa) tNil))) : DE X B e (wApp i wa) :=
  PE.imp h fun σ H Q ⟨G, ρ, n, τ, Q', e, ⟨⟨l, hl⟩, hw⟩, k⟩ => by
    obtain ⟨p, vs, ev, g, hp, rl⟩ := own_at e hl
    refine ⟨_, ev, .inl ⟨rfl, _, SqL.of hp⟩, G, ρ, n, τ, _, e, hw, fun r ρ1 n1 v G1 H1 ⟨l1, hl1, hz, h1⟩ e1 => ?_⟩
    obtain ⟨G2, x2, e2⟩ := e1.freeze
    rw [frz_val] at e2
    obtain ⟨p', ws, ev', g', hp', rl'⟩ := own_at e2.pop hl1
    rw [ev] at ev'
    cases ev'
    obtain ⟨x3, e3⟩ := EnvOk.mutate e2.pop hl1 ev g' hp' (rl'.append (.cons e2.topV .nil))
    exact ⟨p, ws, v, rfl, rfl, hp', by rw [rl'.length]; exact hz, k _ _ _ _ _ _ h1 (e3.pushV .non)⟩
def wPop (i : Nat) (w : TD) : TD := fun ρ n Q => (∃ l, ρ[i]? = some (.own l)) ∧ w ρ n fun r ρ1 n1 => ∃ l j d, ρ1[i]? = some (.own l) ∧ r = .val (.int (j : Nat)) ∧ j < 2 ^ 62 ∧ l[j]? = some d ∧ Q (.val d) (ρ1.set i (.own (l.eraseIdx j))) n1
theorem seqIx {n j : Nat} (h : j < n) : seqIndex? (j : Int) n = some j := by
  have : ixN n (j : Int) = some j := by unfold ixN; rw [if_pos (by omega), if_pos (by omega)]; rfl
  exact (ixN_seq this).1
theorem de_pop {i : Nat} (h : PE X e (tBM X.K "list" rPopAt (tVar i) (tCons (tD X.K B wa) tNil))) : DE X B e (wPop i wa) :=
  PE.imp h fun σ H Q ⟨G, ρ, n, τ, Q', e, ⟨⟨l, hl⟩, hw⟩, k⟩ => by
    obtain ⟨p, vs, ev, g, hp, rl⟩ := own_at e hl
    refine ⟨_, ev, .inl ⟨rfl, _, SqL.of hp⟩, G, ρ, n, τ, _, e, hw, fun r ρ1 n1 v G1 H1 ⟨l1, j, d, hl1, hr, hj, hd, h1⟩ e1 => ?_⟩
    subst hr
    have rv := e1.topV
    cases rv
    obtain ⟨p', ws, ev', g', hp', rl'⟩ := own_at e1.pop hl1
    rw [ev] at ev'
    cases ev'
    obtain ⟨y, hy, ry⟩ := rl'.get hd
    have hjl : j < ws.length := (List.getElem?_eq_some_iff.mp hy).1
    obtain ⟨x3, e3⟩ := EnvOk.mutate e1.pop hl1 ev g' hp' (rl'.eraseIdx j)
    exact ⟨p, ws, j, j, y, rfl, rfl, hp', by omega, by omega, seqIx hjl, hy, k _ _ _ _ _ _ h1 (e3.pushV (ry.mono x3))⟩
/-- xs[k] = e of a name's own list -/
def wgIx (i : Nat) (wk : TD) : TDG := fun r ρ n Q => (∃ l, ρ[i]? = some (.own l)) ∧ ∃ d, r = .val d ∧ wk ρ n fun r2 ρ1 n1 => ∃ l k j, ρ1[i]? = some (.own l) ∧ r2 = .val (.int k) ∧ ixN l.length k = some j ∧ Q (ρ1.set i (.own (l.set j d))) n1
theorem ds_setIx {i : Nat} (h : PS X st (tAsg (tD X.K B we) (gSub (tVar i) (tD X.K B wb) rSetL))) : DS X B st (wAsg we (wgIx i wb)) :=
  PS.imp h fun D σ H ⟨G, ρ, n, τ, D', e, hw, k, _⟩ => ⟨G, ρ, n, τ, _, e, hw, fun r ρ' n' v G' H' ⟨⟨l, hl⟩, d, hr, h1⟩ e' => by
    subst hr
    obtain ⟨p, vs, ev, g, hp, rl⟩ := own_at e' hl
    refine ⟨_, ev, G', ρ', n', _, _, e', h1, fun r2 ρ1 n1 v2 G1 H1 ⟨l1, kk, j, hl1, hr, hj, h2⟩ e1 => ?_⟩
    subst hr
    have rv := e1.topV
    cases rv
    obtain ⟨p', ws, ev', g', hp', rl'⟩ := own_at e1.pop hl1
    rw [ev] at ev'
    cases ev'
    obtain ⟨x3, e3⟩ := EnvOk.mutate e1.pop hl1 ev g' hp' (RepL.set e1.pop.topV j rl')
    exact ⟨p, ws, kk, j, rfl, rfl, hp', by rw [rl'.length]; exact hj, k _ _ _ _ _ h2 e3.pop⟩⟩

/-! ### slices -/
abbrev TDO := List SV → Nat → (Option Int → List SV → Nat → Prop) → Prop
def tDO (K : PySem.W.Frag) (B : Bs) (w : TDO) : TO := fun σ H Q => ∃ G ρ n τ Q', EnvOk K B.1 B.2 G H σ ρ n τ ∧ w ρ n Q' ∧ ∀ o ρ' n' G' H', Q' o ρ' n' → EnvOk K B.1 B.2 G' H' σ ρ' n' τ → Q o H'
theorem PO.imp {o : Option Expr} {t t' : TO} (h : PO X o t) (i : ∀ σ H Q, t' σ H Q → t σ H Q) : PO X o t' := ⟨fun pins s σ H Q I q => h.run pins s σ H Q I (i _ _ _ q)⟩
abbrev DO (X : Cx) (B : Bs) (o : Option Expr) (w : TDO) : Prop := PO X o (tDO X.K B w)
def woN : TDO := fun ρ n Q => Q none ρ n
def woS (w : TD) : TDO := fun ρ n Q => w ρ n fun r ρ1 n1 => ∃ i, r = .val (.int i) ∧ Q (some i) ρ1 n1
theorem do_none : DO X B none woN := PO.imp po_none fun σ H Q ⟨G, ρ, n, τ, Q', e, hw, k⟩ => k _ _ _ _ _ hw e
theorem do_some (ha : DE X B a wa) : DO X B (some a) (woS wa) := PO.imp (po_some ha) fun σ H Q ⟨G, ρ, n, τ, Q', e, hw, k⟩ => ⟨G, ρ, n, τ, _, e, hw, fun r ρ1 n1 v G1 H1 ⟨i, hr, h1⟩ e1 => by
  subst hr
  have rv := e1.topV
  cases rv
  exact ⟨i, rfl, k _ _ _ _ _ h1 e1.pop⟩⟩
def cutD (xs : List D) (lo hi : Option Int) : List D := (xs.drop (HT.sIx xs.length 0 lo)).take (HT.sIx xs.length xs.length hi - HT.sIx xs.length 0 lo)
theorem RepL.cut {G : Gh} {H : Hp} {vs : List V} {ds : List D} (h : RepL K G H vs ds) (lo hi : Option Int) : RepL K G H (cutV vs lo hi) (cutD ds lo hi) := by
  unfold cutV cutD
  rw [h.length]
  exact (h.drop _).take _
def gSl (lo hi : Option Int) (r : RV) (R : RV → Prop) : Prop := match r with
  | .val (.tup l) => R (.val (.tup (cutD l lo hi)))
  | r => ∃ l, listOf r = some l ∧ R (.new (cutD l lo hi))
def wSl (wa : TD) (wl wh : TDO) : TD := fun ρ n Q => wa ρ n fun r ρ1 n1 => wl ρ1 n1 fun lo ρ2 n2 => wh ρ2 n2 fun hi ρ3 n3 => gSl lo hi r fun r' => Q r' ρ3 n3
theorem cut_whole {α : Type} {xs : List α} {lo hi : Option Int} (h : HT.sIx xs.length 0 lo = 0 ∧ HT.sIx xs.length xs.length hi = xs.length) : (xs.drop (HT.sIx xs.length 0 lo)).take (HT.sIx xs.length xs.length hi - HT.sIx xs.length 0 lo) = xs := by
  rw [h.1, h.2]; simp
theorem de_slice {lo hi : Option Expr} {wl wh : TDO} {p2 : Pos} (ha : DE X B a wa) (hl : DO X B lo wl) (hh : DO X B hi wh) : DE X B (.Subscript a (.Slice lo hi none p2) pos) (wSl wa wl wh) :=
  PE.imp (pe_slice (sl_tupA.or sl_list) ha hl hh) fun σ H Q ⟨G, ρ, n, τ, Q', e, hw, k⟩ => ⟨G, ρ, n, τ, _, e, hw, fun r ρ1 n1 v G1 H1 h1 e1 => ⟨G1, ρ1, n1, _, _, e1, h1, fun lo ρ2 n2 G2 H2 h2 e2 => ⟨G2, ρ2, n2, _, _, e2, h2, fun hi ρ3 n3 G3 H3 h3 e3 => by
    have lists : ∀ l, listOf r = some l → Q' (.new (cutD l lo hi)) ρ3 n3 → (rSlA X.K v lo hi H3 Q ∨ rSlL X.K v lo hi H3 Q) := fun l hl hq => by
      obtain ⟨p, vs, rfl, hp, rl⟩ := tmp_list e3.top hl
      exact .inr ⟨p, vs, rfl, SqL.of hp, fun q hq' => k _ _ _ _ _ _ hq (e3.pop.pushNew hq' (rl.cut lo hi))⟩
    unfold gSl at h3
    split at h3
    · rename_i l
      have rv := e3.topV
      cases rv with
      | tup sq rl =>
        refine .inl ⟨_, _, rfl, SqT.of sq, fun hw => k _ _ _ _ _ _ h3 (e3.pop.pushV (.tup sq ?_)), fun _ p hp => k _ _ _ _ _ _ h3 (e3.pop.pushTup hp (rl.cut lo hi))⟩
        have e5 : cutD l lo hi = l := by
          rw [rl.length] at hw
          exact cut_whole hw
        rw [e5]
        exact rl
    · obtain ⟨l, hl, hq⟩ := h3
      exact lists l hl hq⟩⟩⟩
end

/-! ### what a def promises, said of data -/
abbrev Ctr := List D → Nat → (D → Nat → Prop) → Prop
structure G0Ok (G : Gh) (H : Hp) (n : Nat) : Prop where
  ns : ∀ a i, G a ≠ .slot i
  nt : ∀ a i, G a ≠ .tmp i
  bg : ∀ a b, G a = .bagd b → BagOk G H n a b
  fh : ∀ a, H a = none → G a = .free
def spC (K : PySem.W.Frag) (m : Nat) (c : Ctr) : Sp := fun vs H Q _ => ∃ G ds n Q', G0Ok G H n ∧ ds.length = m ∧ RepL K G H vs ds ∧ c ds n Q' ∧
  ∀ d n' v G' H', Q' d n' → Gr G H G' H' → (∀ a b, G' a = .bagd b → BagOk G' H' n' a b) → (∀ a, H' a = none → G' a = .free) → Rep K G' H' v d → Q v H'
def startD (N : List Str) (ds : List D) : List SV := ds.map .val ++ List.replicate (N.length - ds.length) .un
theorem Gr.refl {G : Gh} {H : Hp} : Gr G H G H := ⟨fun _ _ h _ _ => ⟨h, rfl⟩, fun _ _ h => h, fun _ _ h => h, fun _ _ h => h, fun _ _ _ h => h⟩
theorem envOk_start {K : PySem.W.Frag} {G : Gh} {H : Hp} {n : Nat} {N : List Str} {vs : List V} {ds : List D} (g : G0Ok G H n) (rl : RepL K G H vs ds) : EnvOk K G H G H (L2.start N vs) (startD N ds) n [] := by
  refine ⟨.refl, g.ns, g.nt, g.bg, g.fh, ?_, fun i s h => ?_, fun j v r h => by simp at h⟩
  · unfold startD L2.start
    rw [List.length_append, List.length_append, List.length_map, List.length_map, List.length_replicate, List.length_replicate, rl.length]
  · unfold startD at h
    by_cases hi : i < ds.length
    · rw [List.getElem?_append_left (by rw [List.length_map]; exact hi), List.getElem?_map, List.getElem?_eq_getElem hi] at h
      cases h
      obtain ⟨v, hv, rv⟩ := rl.get (List.getElem?_eq_getElem hi)
      refine ⟨v, ?_, rv⟩
      unfold L2.start
      rw [List.getElem?_append_left (by rw [List.length_map, rl.length]; exact hi), List.getElem?_map, hv]
      rfl
    · rw [List.getElem?_append_right (by rw [List.length_map]; omega), List.getElem?_replicate] at h
      split at h
      · cases h; trivial
      · cases h
/-- THE RULE for a def -/
theorem def_ok {P : Program} {w : World} {K : PySem.W.Frag} {mg : Str → Option Value} {base : Heap} {x qual : Str} {st : Stmt} {f : Addr} {fd : FuncData} {N ps : List Str} {k m : Nat} {c : Ctr} {wb : TDS} (F : Fun K x qual st f fd) (S : FnScope N ps (defScope st)) (hm : ps.length = m)
    (hbody : ∀ (cdv : Value) (A : Around) (outer : List Env) (s : Shared) (H : Hp) (E : XK) (B : Bs), Room k (A.deeper (envOfC qual (defScope st) s.heap.objs.size f cdv)) → DSs (cxOf CX0 P w K mg base N qual (defScope st) f cdv A outer s H E).nox B (defBody st) wb)
    (hc : ∀ ds n Q, ds.length = m → c ds n Q → wb { nx := fun _ n' => Q .non n', rt := Q } (startD N ds) n) : FnOk P w K mg base CX0 (k + 1) f fd ps (spC K m c) := by
  refine F.ok S (fun vs H Q E ⟨G, ds, n, Q', g, hl, rl, hc, hq⟩ => by rw [rl.length, hl, hm]) (fun cdv A outer s H vs Q E hr ⟨G, ds, n, Q', g, hl, rl, h1, hq⟩ => ?_)
  exact ⟨_, hbody cdv A outer s H E (G, H) hr, G, startD N ds, n, [], _, envOk_start g rl, hc ds n Q' hl h1, fun σ' ρ' n' G' H' h2 e2 => hq .non n' .non G' H' h2 e2.gr e2.bg e2.fh .non,
    fun d n' v G' H' σ' ρ' h2 r2 e2 => hq d n' v G' H' h2 e2.gr e2.bg e2.fh r2, fun _ _ _ _ _ z => z.elim, fun _ _ _ _ _ z => z.elim⟩

/-! ### a def's call -/
def outG (G : Gh) : Gh := fun a => match G a with
  | .slot _ => .oth
  | .tmp _ => .oth
  | t => t
def backG (G G' : Gh) : Gh := fun a => match G a with
  | .slot i => .slot i
  | .tmp i => .tmp i
  | _ => match G' a with
    | .slot _ => .free
    | .tmp _ => .free
    | t => t
theorem outG_slot {G : Gh} {a : Addr} {i : Nat} (h : G a = .slot i) : outG G a = .oth := by unfold outG; rw [h]
theorem outG_tmp {G : Gh} {a : Addr} {i : Nat} (h : G a = .tmp i) : outG G a = .oth := by unfold outG; rw [h]
theorem outG_eq {G : Gh} {a : Addr} (h1 : ∀ i, G a ≠ .slot i) (h2 : ∀ i, G a ≠ .tmp i) : outG G a = G a := by
  unfold outG; split
  · rename_i i h; exact absurd h (h1 i)
  · rename_i i h; exact absurd h (h2 i)
  · rfl
theorem outG_iff {G : Gh} {a : Addr} {t : Tg} (h : outG G a = t) (ht : t ≠ .oth) : G a = t := by
  unfold outG at h; split at h
  · exact absurd h.symm ht
  · exact absurd h.symm ht
  · exact h
theorem backG_slot {G G' : Gh} {a : Addr} {i : Nat} (h : G a = .slot i) : backG G G' a = .slot i := by unfold backG; rw [h]
theorem backG_tmp {G G' : Gh} {a : Addr} {i : Nat} (h : G a = .tmp i) : backG G G' a = .tmp i := by unfold backG; rw [h]
theorem backG_eq {G G' : Gh} {a : Addr} (h1 : ∀ i, G a ≠ .slot i) (h2 : ∀ i, G a ≠ .tmp i) (h3 : ∀ i, G' a ≠ .slot i) (h4 : ∀ i, G' a ≠ .tmp i) : backG G G' a = G' a := by
  unfold backG; split
  · rename_i i h; exact absurd h (h1 i)
  · rename_i i h; exact absurd h (h2 i)
  · split
    · rename_i i h; exact absurd h (h3 i)
    · rename_i i h; exact absurd h (h4 i)
    · rfl
section
variable {K : PySem.W.Frag} {G0 G G' : Gh} {H0 H H' : Hp} {σ : L2.St} {ρ : List SV} {n n' : Nat} {τ : List (V × RV)}
theorem EnvOk.out (e : EnvOk K G0 H0 G H σ ρ n τ) : G0Ok (outG G) H n ∧ Ext G H (outG G) H := by
  refine ⟨⟨fun a i h => ?_, fun a i h => ?_, fun a b h => ?_, fun a h => ?_⟩, ⟨fun a h => ⟨?_, fun _ q => q⟩, fun _ _ q => q, fun _ _ _ q => q, fun a b h => ?_⟩⟩
  · have := outG_iff h (by simp); rw [outG_slot this] at h; cases h
  · have := outG_iff h (by simp); rw [outG_tmp this] at h; cases h
  · have h := outG_iff h (by simp)
    obtain ⟨gb, z⟩ := e.bg a b h
    exact ⟨by rw [outG_eq (by rw [gb]; simp) (by rw [gb]; simp)]; exact gb, z⟩
  · have := e.fh a h
    rw [outG_eq (by rw [this]; simp) (by rw [this]; simp)]; exact this
  · rw [outG_eq (by rw [h]; simp) (by rw [h]; simp)]; exact h
  · rw [outG_eq (by rw [h]; simp) (by rw [h]; simp)]; exact h
/-- behind a call: the callee kept what was the caller's -/
theorem EnvOk.back (e : EnvOk K G0 H0 G H σ ρ n τ) (gr : Gr (outG G) H G' H') (bg : ∀ a b, G' a = .bagd b → BagOk G' H' n' a b) (fh : ∀ a, H' a = none → G' a = .free) :
    EnvOk K G0 H0 (backG G G') H' σ ρ n' τ ∧ Ext G' H' (backG G G') H' := by
  -- an address that the caller owns
  have ownd : ∀ a, (∃ i, G a = .slot i) ∨ (∃ i, G a = .tmp i) → ∃ o, H a = some o ∧ H' a = some o ∧ G' a = .oth := fun a h => by
    have hG : outG G a = .oth := by rcases h with ⟨i, h⟩ | ⟨i, h⟩; exact outG_slot h; exact outG_tmp h
    cases q : H a with
    | none => have := e.fh a q; rcases h with ⟨i, h⟩ | ⟨i, h⟩ <;> (rw [h] at this; cases this)
    | some o =>
      obtain ⟨z1, z2⟩ := gr.keep a o q (by rw [hG]; simp) (by rw [hG]; simp)
      exact ⟨o, rfl, z1, z2.trans hG⟩
  have noown : ∀ a, G' a ≠ .oth → (∀ i, G a ≠ .slot i) ∧ ∀ i, G a ≠ .tmp i := fun a h =>
    ⟨fun i q => h (by obtain ⟨_, _, _, z⟩ := ownd a (.inl ⟨i, q⟩); exact z), fun i q => h (by obtain ⟨_, _, _, z⟩ := ownd a (.inr ⟨i, q⟩); exact z)⟩
  have bk : ∀ a t, G' a = t → t ≠ .oth → (∀ i, t ≠ .slot i) → (∀ i, t ≠ .tmp i) → backG G G' a = t := fun a t h h1 h2 h3 => by
    subst h
    exact backG_eq (noown a h1).1 (noown a h1).2 h2 h3
  have bki : ∀ a b, backG G G' a = .bagd b → G' a = .bagd b := fun a b h => by
    unfold backG at h
    split at h
    · cases h
    · cases h
    · split at h
      · cases h
      · cases h
      · exact h
  have x2 : Ext G' H' (backG G G') H' := ⟨fun a h => ⟨bk a _ h (by simp) (by simp) (by simp), fun _ q => q⟩, fun _ _ q => q, fun _ _ _ q => q, fun a b h => bk a _ h (by simp) (by simp) (by simp)⟩
  have keepG : ∀ a o, H a = some o → (∀ b, G a ≠ .bagd b) → (∀ b, G a ≠ .bagl b) → H' a = some o := fun a o q h1 h2 =>
    (gr.keep a o q (fun b z => h1 b (outG_iff z (by simp))) (fun b z => h2 b (outG_iff z (by simp)))).1
  have x1 : Ext G H (backG G G') H' := by
    refine ⟨fun a h => ?_, gr.tup, gr.frz, fun a b h => ?_⟩
    · cases q : H a with
      | none => have := e.fh a q; rw [h] at this; cases this
      | some o =>
        have ho : outG G a = .fro := by rw [outG_eq (by rw [h]; simp) (by rw [h]; simp)]; exact h
        obtain ⟨z1, z2⟩ := gr.keep a o q (by rw [ho]; simp) (by rw [ho]; simp)
        exact ⟨bk a _ (z2.trans ho) (by simp) (by simp) (by simp), fun o' q' => by cases q'; exact z1⟩
    · have ho : outG G a = .bagd b := by rw [outG_eq (by rw [h]; simp) (by rw [h]; simp)]; exact h
      exact bk a _ (gr.bagd a b ho) (by simp) (by simp) (by simp)
  refine ⟨⟨⟨fun a o q h1 h2 => ?_, fun a b h => ?_, fun a b h => ?_, fun a xs q => gr.tup a xs (e.gr.tup a xs q), fun a o u q => gr.frz a o u (e.gr.frz a o u q)⟩, e.ns, e.nt, fun a b h => ?_, fun a h => ?_, e.ln,
    fun i s hs => (e.sl i s hs).mono x1 fun a vs g q => ⟨backG_slot g, keepG a _ q (by rw [g]; simp) (by rw [g]; simp)⟩, fun j v r h => (e.tm j v r h).mono x1 fun a vs g q => ⟨backG_tmp g, keepG a _ q (by rw [g]; simp) (by rw [g]; simp)⟩⟩, x2⟩
  · obtain ⟨z1, z2⟩ := e.gr.keep a o q h1 h2
    have hs : ∀ i, G a ≠ .slot i := fun i z => e.ns a i (z2.symm.trans z)
    have ht : ∀ i, G a ≠ .tmp i := fun i z => e.nt a i (z2.symm.trans z)
    have ho : outG G a = G a := outG_eq hs ht
    obtain ⟨y1, y2⟩ := gr.keep a o z1 (fun b z => h1 b (z2.symm.trans (ho.symm.trans z))) (fun b z => h2 b (z2.symm.trans (ho.symm.trans z)))
    refine ⟨y1, ?_⟩
    rw [backG_eq hs ht (fun i z => hs i (ho.symm.trans (y2.symm.trans z))) (fun i z => ht i (ho.symm.trans (y2.symm.trans z))), y2, ho, z2]
  · have z := e.gr.bagd a b h
    exact bk a _ (gr.bagd a b (by rw [outG_eq (by rw [z]; simp) (by rw [z]; simp)]; exact z)) (by simp) (by simp) (by simp)
  · have z := e.gr.bagl a b h
    exact bk a _ (gr.bagl a b (by rw [outG_eq (by rw [z]; simp) (by rw [z]; simp)]; exact z)) (by simp) (by simp) (by simp)
  · obtain ⟨gb, z⟩ := bg a b (bki a b h)
    exact ⟨bk b _ gb (by simp) (by simp) (by simp), z⟩
  · have hf := fh a h
    exact bk a _ hf (by simp) (by simp) (by simp)
end
section
variable {X : Cx} {B : Bs} {e : Expr} {es : List Expr} {ws : TDA} {pos : Pos}
def wCall (m : Nat) (c : Ctr) (ws : TDA) : TD := fun ρ n Q => ws ρ n fun rs ρ1 n1 => rs.length = m ∧ c (rs.map dOf) n1 fun d n2 => Q (.val d) ρ1 n2
theorem de_call {m : Nat} {c : Ctr} {E : XK} (h : PE X e (tCall (spC X.K m c) [] E (tDA X.K B ws))) : DE X B e (wCall m c ws) :=
  PE.imp h fun σ H Q ⟨G, ρ, n, τ, Q', e, hw, k⟩ => ⟨G, ρ, n, τ, _, e, hw, fun rs ρ1 n1 vs G1 H1 ⟨hm, h1⟩ hl e1 => by
    obtain ⟨G2, x2, e2, rl⟩ := EnvOk.freezeAll rs vs τ G1 hl e1
    obtain ⟨g0, x3⟩ := e2.out
    refine ⟨outG G2, rs.map dOf, n1, _, g0, by rw [List.length_map]; exact hm, by rw [List.append_nil]; exact rl.mono x3, h1, fun d n2 v G' H' h2 gr bg fh rv => ?_⟩
    obtain ⟨e3, x4⟩ := e2.back gr bg fh
    exact k _ _ _ _ _ _ h2 (e3.pushV (rv.mono x4))⟩
end
end Ly

namespace Ly
open PySem PySem.Spec PyProof.Rows L2 RZ
/-! ### tuple * int -/
theorem tuple_mul_zero (l : Addr) (items : Array Value) (n : Nat) (dd : Option Addr) (sl : Array (Option Value)) (x : Int) (u : Tok) (c0 : (decide (x < -(2 ^ 63)) || decide (x ≥ 2 ^ 63)) = false) (c1 : (items.isEmpty || x == 1) = false) (c2 : (decide (x ≤ 0) || items.isEmpty) = true) :
    Meets (Builtin.«tuple.__mul__» ⟨[.ref l, .int x u], []⟩) (fun _ R s => s.heap.get? l = some { cls := .type "tuple", dict := dd, data := .seq items n, slots := sl } ∧
      R (.ok (.ret (Value.ref s.heap.objs.size))) { s with heap := s.heap.push { cls := Value.type "tuple", data := Data.seq #[] }, toks := s.toks }) :=
  .of_wp fun prog w A R s h => by
    obtain ⟨hp, g, d, tk, os⟩ := s
    obtain ⟨hl, h⟩ := h
    have f1 := AutoSeq1.idx_int
    wp_walk using wpAny_loadPart' hl
    repeat (first
      | (refine wpAny_ite_false (decide_eq_false (by rw [c0]; exact Bool.false_ne_true)) ?_; wp_walk using wpAny_loadPart' hl)
      | (refine wpAny_ite_false (decide_eq_false (by rw [c1]; exact Bool.false_ne_true)) ?_; wp_walk using wpAny_loadPart' hl))
    exact ⟨_, rfl, h⟩
theorem tuple_mul_one (l : Addr) (items : Array Value) (n : Nat) (dd : Option Addr) (sl : Array (Option Value)) (x : Int) (u : Tok) (c0 : (decide (x < -(2 ^ 63)) || decide (x ≥ 2 ^ 63)) = false) (c1 : (items.isEmpty || x == 1) = true) :
    Meets (Builtin.«tuple.__mul__» ⟨[.ref l, .int x u], []⟩) (fun _ R s => s.heap.get? l = some { cls := .type "tuple", dict := dd, data := .seq items n, slots := sl } ∧
      R (.ok (.ret (Value.ref l))) s) :=
  .of_wp fun prog w A R s h => by
    obtain ⟨hp, g, d, tk, os⟩ := s
    obtain ⟨hl, h⟩ := h
    have f1 := AutoSeq1.idx_int
    wp_walk using wpAny_loadPart' hl
    repeat (first
      | (refine wpAny_ite_false (decide_eq_false (by rw [c0]; exact Bool.false_ne_true)) ?_; wp_walk using wpAny_loadPart' hl))
    exact ⟨_, rfl, h⟩
def rRepA (K : PySem.W.Frag) : R2 := fun x y H Q => ∃ l k xs, x = .ref l ∧ y = .int k ∧ SqT K H l xs ∧ xs ≠ [] ∧ -1000 ≤ k ∧ k ≤ 1000 ∧ xs.length ≤ 1000 ∧ (k = 1 → Q (.ref l) H) ∧ (k ≠ 1 → ∀ p, H p = none → Q (.ref p) (upd H p (.tup (List.replicate k.toNat xs).flatten)))
theorem op_repA {X : Cx} : OpR X (binaryOp .Mult) (rRepA X.K) := by
  intro pins st sl H x y v u Q I rx ry hh
  obtain ⟨l, k, xs, rfl, rfl, hT, hne, h1, h2, hz, q1, q2⟩ := hh
  by_cases hk2 : 2 ≤ k
  · exact op_repT pins st sl H _ _ v u Q I rx ry ⟨l, k, xs, rfl, rfl, hT, hne, hk2, h2, hz, q2 (by omega)⟩
  · cases rx
    obtain ⟨tk, rfl⟩ := ry
    obtain ⟨its, r, ⟨⟨cls, dd, data, sls⟩, ho, hc, n, hd⟩, hs⟩ := I.tuple hT
    simp only at hc hd
    subst hc hd
    have hne' : its ≠ [] := fun z => hne (by subst z; have := r.length; exact List.eq_nil_of_length_eq_zero this)
    have hi : its.toArray.isEmpty = false := by
      cases its with
      | nil => exact absurd rfl hne'
      | cons _ _ => rfl
    have c0 : (decide (k < -(2 ^ 63)) || decide (k ≥ 2 ^ 63)) = false := by rw [decide_eq_false (by omega), decide_eq_false (by omega)]; rfl
    by_cases hk1 : k = 1
    · subst hk1
      refine wpAny_binaryOp_repeat_ref (T := "tuple") (U := "int") (by decide) ⟨_, ho, rfl⟩ (fun s' => typeIs_int s' 1 tk) noFill_tuple_mul F.fills_int_mul F.slot_int_rmul repeat_tuple F.slot_int_index.lookup
        (call_meets F.slot_int_rmul (typeIs_int st 1 tk) F.entry_int_rmul (F.args_int_rmul_2 _ _) (int_rmul_tuple 1 tk l its.toArray n dd sls)
          ⟨ho, rfl, ⟨_, ho, rfl⟩, call_meets F.slot_tuple_mul ⟨_, ho, rfl⟩ F.entry_tuple_mul (F.args_tuple_mul_2 _ _) (tuple_mul_one l its.toArray n dd sls 1 tk c0 (by rw [hi]; rfl)) ⟨ho, ?_⟩⟩)
      exact ⟨.ref l, H, I, rfl, q1 rfl⟩
    · have e0 : k.toNat = 0 := by omega
      have c1 : (its.toArray.isEmpty || k == 1) = false := by rw [hi, Bool.false_or]; exact beq_eq_false_iff_ne.mpr hk1
      have c2 : (decide (k ≤ 0) || its.toArray.isEmpty) = true := by rw [decide_eq_true (by omega)]; rfl
      refine wpAny_binaryOp_repeat_ref (T := "tuple") (U := "int") (by decide) ⟨_, ho, rfl⟩ (fun s' => typeIs_int s' k tk) noFill_tuple_mul F.fills_int_mul F.slot_int_rmul repeat_tuple F.slot_int_index.lookup
        (call_meets F.slot_int_rmul (typeIs_int st k tk) F.entry_int_rmul (F.args_int_rmul_2 _ _) (int_rmul_tuple k tk l its.toArray n dd sls)
          ⟨ho, rfl, ⟨_, ho, rfl⟩, call_meets F.slot_tuple_mul ⟨_, ho, rfl⟩ F.entry_tuple_mul (F.args_tuple_mul_2 _ _) (tuple_mul_zero l its.toArray n dd sls k tk c0 c1 c2) ⟨ho, ?_⟩⟩)
      have q3 := q2 hk1 st.heap.objs.size (I.hok.fresh (Nat.le_refl _))
      rw [e0] at q3
      refine ⟨.ref st.heap.objs.size, _, I.laid (t' := st.toks) (o := .tup []) (fun b ob z => Heap.get?_push_of_some _ z) (Nat.le_refl _) ⟨Nat.zero_le _, [], .nil, IsTup.new _ _⟩, rfl, q3⟩
section
variable {X : Cx} {B : Bs} {a b c e elt tg iter : Expr} {es : List Expr} {pos : Pos} {wa wb wc we : TD} {ws : TDA} {wt wu : TDT} {wg : TDG} {wgs : TDGs} {K : PySem.W.Frag} {ix ix' : List Nat} {st : Stmt}
/-- * : ints, a tuple by a small number -/
def gMul : G2 := fun r1 r2 R => match r1, r2 with
  | .val (.int i), .val (.int j) => CMul i j ∧ R (.val (.int (i * j)))
  | .val (.tup l), .val (.int k) => l ≠ [] ∧ -1000 ≤ k ∧ k ≤ 1000 ∧ l.length ≤ 1000 ∧ R (.val (.tup (List.replicate k.toNat l).flatten))
  | _, _ => False
theorem snd_mul : SndO K B gMul (fun x y H Q => (rI CMul fun i j => .int (i * j)) x y H Q ∨ rRepA K x y H Q) := by
  intro G H σ ρ n τ v1 v2 r1 r2 R Q e hg k
  unfold gMul at hg
  split at hg
  · have h2 := e.topV
    have h1 := e.pop.topV
    cases h1
    cases h2
    exact .inl ⟨_, _, rfl, rfl, hg.1, k _ _ _ _ hg.2 (e.pop.pop.pushV (.int _))⟩
  · obtain ⟨hne, hk1, hk2, hl, hR⟩ := hg
    have h2 := e.topV
    have h1 := e.pop.topV
    cases h2
    cases h1 with
    | tup sq rl =>
      refine .inr ⟨_, _, _, rfl, rfl, SqT.of sq, fun z => hne (rl.nil_iff.mp z), hk1, hk2, by rw [rl.length]; exact hl, fun z => ?_, fun _ p hp => k _ _ _ _ hR (e.pop.pop.pushTup hp (rl.rep _))⟩
      subst z
      refine k _ _ _ _ hR (e.pop.pop.pushV (.tup sq ?_))
      simpa using rl
  · exact hg.elim
theorem de_mul (ha : DE X B a wa) (hb : DE X B b wb) : DE X B (.BinOp a .Mult b pos) (wOp gMul wa wb) := de_op snd_mul (op_mul.or op_repA) ha hb
/-! ### list(range(..)) -/
def wListR1 (w : TD) : TD := fun ρ n Q => w ρ n fun r ρ1 n1 => ∃ j : Nat, r = .val (.int j) ∧ j ≤ 16777216 ∧ Q (.new (rgD 0 j)) ρ1 n1
theorem de_listR1 {p p' pos' : Pos} (hc : X.calm = true) (hg : Gl X "list") (hm : X.mg "list" = none) (hg' : Gl X "range") (hm' : X.mg "range" = none) (ha : DE X B a wa)
    (na : starEach [a] X.env = (false, eval a X.env) :: starEach [] X.env := by rfl) (na' : starEach [.Call (.Name "range" p') [a] [] pos'] X.env = (false, eval (.Call (.Name "range" p') [a] [] pos') X.env) :: starEach [] X.env := by rfl) :
    DE X B (.Call (.Name "list" p) [.Call (.Name "range" p') [a] [] pos'] [] pos) (wListR1 wa) :=
  PE.imp (pe_listRg hc hg hm (prg_1 hg' hm' ha na) na') fun σ H Q ⟨G, ρ, n, τ, Q', e, hw, k⟩ => ⟨G, ρ, n, τ, _, e, hw, fun r ρ1 n1 v G1 H1 ⟨j, hr, hj, h1⟩ e1 => by
    subst hr
    have rv := e1.topV
    cases rv
    refine ⟨j, rfl, RgOk.of_le (by omega) (by omega) (by omega) (by omega), fun p hp => k _ _ _ _ _ _ h1 (e1.pop.pushNew hp ?_)⟩
    have : ((j : Int) - 0).toNat = j := by omega
    unfold rgV rgD
    rw [this]
    generalize List.range j = l
    induction l with
    | nil => exact .nil
    | cons x l ih => exact .cons (.int _) ih⟩
/-! ### zip -/
def zipD (xs ys : List D) : List D := List.zipWith (fun x y => D.tup [x, y]) xs ys
theorem zipD_get {xs ys : List D} {i : Nat} {d : D} (h : (zipD xs ys)[i]? = some d) : ∃ x y, xs[i]? = some x ∧ ys[i]? = some y ∧ d = .tup [x, y] := by
  unfold zipD at h
  rw [List.getElem?_zipWith] at h
  cases h1 : xs[i]? with
  | none => rw [h1] at h; simp at h
  | some x =>
    cases h2 : ys[i]? with
    | none => rw [h1, h2] at h; simp at h
    | some y => rw [h1, h2] at h; cases h; exact ⟨x, y, rfl, rfl, rfl⟩
def wiZip (ws : TDA) : TDI := fun ρ n Q => ws ρ n fun rs ρ1 n1 => ∃ r s, rs = [r, s] ∧ ((∃ x y, r = .val (.tup x) ∧ s = .val (.tup y) ∧ Q (zipD x y) ρ1 n1) ∨ ∃ x y, listOf r = some x ∧ listOf s = some y ∧ Q (zipD x y) ρ1 n1)
theorem EnvOk.tmAt2 {G0 G : Gh} {H0 H : Hp} {σ : L2.St} {ρ : List SV} {n : Nat} {τ τ' : List (V × RV)} {v v' : V} {d d' : D} (e : EnvOk K G0 H0 G H σ ρ n (τ ++ [(v, .val d), (v', .val d')] ++ τ')) : Rep K G H v d ∧ Rep K G H v' d' :=
  ⟨e.tm τ.length v (.val d) (by simp), e.tm (τ.length + 1) v' (.val d') (by simp)⟩
theorem di_zip {tpos : Pos} {elts : List Expr} {kk : Nat} (h : PI X (.Tuple elts kk tpos) iter (iZipA X.K (tDA X.K B ws))) : DI X B (.Tuple elts kk tpos) iter (wiZip ws) :=
  PI.imp h fun σ H R ⟨G, ρ, n, τ, Q', e, hw, k⟩ => ⟨G, ρ, n, τ, _, e, hw, fun rs ρ1 n1 vs G1 H1 ⟨r, s, hr, h1⟩ hl e1 => by
    subst hr
    obtain ⟨v, v', rfl⟩ := len2 hl
    rcases h1 with ⟨x, y, rfl, rfl, h1⟩ | ⟨x, y, hx, hy, h1⟩
    · have e2 : EnvOk X.K B.1 B.2 G1 H1 σ ρ1 n1 (τ ++ [(v, .val (.tup x)), (v', .val (.tup y))]) := e1
      obtain ⟨r1, r2⟩ := EnvOk.tmAt2 (τ' := []) (by rw [List.append_nil]; exact e2)
      cases r1 with
      | tup sq1 rl1 =>
        cases r2 with
        | tup sq2 rl2 =>
          refine ⟨_, _, _, _, rfl, .inr ⟨SqT.of sq1, SqT.of sq2, k _ _ _ [(_, .val (.tup x)), (_, .val (.tup y))] _ _ _ h1 (fun τ'' => ?_) e2⟩⟩
          intro G5 H5 σ5 ρ5 n5 i e5
          obtain ⟨r1, r2⟩ := e5.tmAt2
          cases r1 with
          | tup sq1 rl1 =>
            cases r2 with
            | tup sq2 rl2 =>
              replace sq1 := SqT.of (K := X.K) sq1
              replace sq2 := SqT.of (K := X.K) sq2
              refine ⟨fun hi => ⟨_, _, sq1, sq2, ?_⟩, fun d hd => ?_⟩
              · rw [rl1.length, rl2.length, hi]
                unfold zipD
                rw [List.length_zipWith]
                omega
              · obtain ⟨xd, yd, hx, hy, rfl⟩ := zipD_get hd
                obtain ⟨vx, hvx, rx⟩ := rl1.get hx
                obtain ⟨vy, hvy, ry⟩ := rl2.get hy
                refine ⟨⟨_, _, vx, vy, sq1, sq2, hvx, hvy⟩, fun z H' ⟨T, x', y', ez, nT, eH, f1, f2⟩ => ?_⟩
                subst ez eH
                have e1 := (f1 _ sq1).symm.trans hvx
                have e2 := (f2 _ sq2).symm.trans hvy
                cases e1
                cases e2
                exact ⟨_, e5.pushTup nT (.cons rx (.cons ry .nil))⟩
    · obtain ⟨G2, x2, e2, rl⟩ := EnvOk.freezeAll [r, s] [v, v'] τ G1 hl e1
      have hdx : dOf r = .lst x := by
        cases r with
        | newD t m => cases hx
        | new l => cases hx; rfl
        | val d => cases d <;> first | cases hx | skip
                   rfl
      have hdy : dOf s = .lst y := by
        cases s with
        | newD t m => cases hy
        | new l => cases hy; rfl
        | val d => cases d <;> first | cases hy | skip
                   rfl
      have e3 : EnvOk X.K B.1 B.2 G2 H1 σ ρ1 n1 (τ ++ [(v, .val (.lst x)), (v', .val (.lst y))]) := by
        have := e2.pushAll rl
        rw [show ([v, v'].zip (([r, s].map dOf).map RV.val)) = [(v, RV.val (dOf r)), (v', RV.val (dOf s))] from rfl, hdx, hdy] at this
        exact this
      obtain ⟨r1, r2⟩ := EnvOk.tmAt2 (τ' := []) (by rw [List.append_nil]; exact e3)
      cases r1 with
      | lst g1 sq1 rl1 =>
        cases r2 with
        | lst g2 sq2 rl2 =>
          refine ⟨_, _, _, _, rfl, .inl ⟨SqL.of sq1, SqL.of sq2, k _ _ _ [(_, .val (.lst x)), (_, .val (.lst y))] _ _ _ h1 (fun τ'' => ?_) e3⟩⟩
          intro G5 H5 σ5 ρ5 n5 i e5
          obtain ⟨r1, r2⟩ := e5.tmAt2
          cases r1 with
          | lst g1 sq1 rl1 =>
            cases r2 with
            | lst g2 sq2 rl2 =>
              refine ⟨fun hi => ⟨_, _, SqL.of sq1, SqL.of sq2, ?_⟩, fun d hd => ?_⟩
              · rw [rl1.length, rl2.length, hi]
                unfold zipD
                rw [List.length_zipWith]
                omega
              · obtain ⟨xd, yd, hx, hy, rfl⟩ := zipD_get hd
                obtain ⟨vx, hvx, rx⟩ := rl1.get hx
                obtain ⟨vy, hvy, ry⟩ := rl2.get hy
                refine ⟨⟨_, _, vx, vy, SqL.of sq1, SqL.of sq2, hvx, hvy⟩, fun z H' ⟨T, x', y', ez, nT, eH, f1, f2⟩ => ?_⟩
                subst ez eH
                have e1 := (f1 _ (SqL.of sq1)).symm.trans hvx
                have e2 := (f2 _ (SqL.of sq2)).symm.trans hvy
                cases e1
                cases e2
                exact ⟨_, e5.pushTup nT (.cons rx (.cons ry .nil))⟩⟩
end
/-! ### enumerate -/
theorem meets_enum1 {v : Value} {o : Obj} {P : Heap → Prop} (Bg : Begins v o P) :
    Meets (Builtin.«enumerate.__new__» ⟨[.type "enumerate", v], []⟩) (fun _ R s => P s.heap ∧
      R (.ok (.ret (.ref (s.heap.push o).objs.size))) { s with heap := (s.heap.push o).push { cls := .type "enumerate", data := .fields #[.none, .bool false, .ref s.heap.objs.size, rawInt 0, .none, .none] } }) :=
  .of_wp fun prog w A R s h => by
    obtain ⟨hp, g, d, tk, os⟩ := s
    obtain ⟨h1, h⟩ := h
    have hsub := sub_enumerate
    have q1 : ∀ {A' : Around} {E : Value → Shared → Prop} {Q : Value → Shared → Prop}, Q (.ref hp.objs.size) ⟨hp.push o, g, d, tk, os⟩ → wpAny (model prog w) A' (pyIter v) Q E ⟨hp, g, d, tk, os⟩ :=
      fun q => Bg.iter prog w _ _ ⟨hp, g, d, tk, os⟩ _ h1 q
    wp_walk using q1
    refine wpAny_stack_any fun stk => wpAny_pure ?_
    split
    · rename_i cc _ _ _ _ _
      cases (cc == Value.type "enumerate") <;> (wp_walk using q1; exact ⟨_, rfl, h⟩)
    · wp_walk using q1
      exact ⟨_, rfl, h⟩
theorem enum1 {prog : Program} {w : World} {A : Around} {E : Value → Shared → Prop} {s : Shared} {v : Value} {o : Obj} {P : Heap → Prop} {Q : Value → Shared → Prop} (Bg : Begins v o P) (h1 : P s.heap)
    (h : ∀ h', IsEnum h' (s.heap.objs.size + 1) s.heap.objs.size 0 .none → h'.get? s.heap.objs.size = some o → h'.objs.size = s.heap.objs.size + 2 →
      (∀ b ob, s.heap.get? b = some ob → h'.get? b = some ob) → Q (.ref (s.heap.objs.size + 1)) { s with heap := h' }) :
    wpAny (model prog w) A (call (.type "enumerate") [v]) Q E s := by
  refine callType_new F.called_enumerate (by decide) (F.typeCall_enumerate_1 _) (F.newCall_enumerate_1 _) (fun obj => F.args_object_init_2 obj _) F.entry_enumerate_new (meets_enum1 Bg) ⟨h1, ?_⟩
  have hz : (s.heap.push o).objs.size = s.heap.objs.size + 1 := Heap.size_push ..
  show _ ∧ _
  rw [hz]
  have he : IsEnum ((s.heap.push o).push { cls := .type "enumerate", data := .fields #[.none, .bool false, .ref s.heap.objs.size, rawInt 0, .none, .none] }) (s.heap.objs.size + 1) s.heap.objs.size 0 .none := by
    have := Heap.get?_push_size (s.heap.push o) (o := { cls := .type "enumerate", data := .fields #[.none, .bool false, .ref s.heap.objs.size, rawInt 0, .none, .none] }) rfl
    rw [hz] at this
    exact this
  exact ⟨⟨_, he, rfl⟩, h _ he (Heap.get?_push_of_some _ (Heap.get?_push_size _ Bg.free)) (by rw [Heap.size_push, hz]) fun b ob x => Heap.get?_push_of_some _ (Heap.get?_push_of_some _ x)⟩
/-- the tuple at a, each item in a new pair with its place -/
def ItE (K : PySem.W.Frag) (a : Addr) : It :=
  ⟨fun i H => ∃ (xs : List V) (x : V), SqT K H a xs ∧ xs[i]? = some x, fun i H v H' => ∃ T x, v = .ref T ∧ H T = none ∧ H' = upd H T (.tup [.int (i : Nat), x]) ∧ ∀ xs, SqT K H a xs → xs[i]? = some x, fun i H => ∃ xs : List V, SqT K H a xs ∧ xs.length = i⟩
theorem turn_enumT {P : Program} {w : World} {K : PySem.W.Frag} {elts : List Expr} {kk : Nat} {tpos : Pos} (a en it : Addr) :
    Turn P w K (.Tuple elts kk tpos) (ItE K a) [en, it] en (fun i h => (∃ old, IsEnum h en it ((i : Nat) : Int) old) ∧ h.IsTupleIter it a i ∧ en ≠ it) where
  mem := by simp
  obj := fun i h stt b hb => by
    obtain ⟨⟨old, he⟩, ⟨o, ho, hc, hd⟩, _⟩ := stt
    have e' : b = en ∨ b = it := by simpa using hb
    rcases e' with z | z
    · rw [z]; exact ⟨_, he, fun v q => nomatch q⟩
    · rw [z]; exact ⟨o, ho, fun v q => by rw [hd] at q; cases q⟩
  keep := fun i h h' stt k => let ⟨⟨old, he⟩, hi, hne⟩ := stt; ⟨⟨old, k en (by simp) _ he⟩, hi.at fun o q => k it (by simp) o q, hne⟩
  item := by
    intro X hP hw hK hc i pins s σ H E I hf stt hg
    subst hP hw hK
    obtain ⟨⟨old, he⟩, hit, hne⟩ := stt
    obtain ⟨xs, x, hq, hx⟩ := hg
    obtain ⟨its, rv, p, hz⟩ := I.tuple hq
    obtain ⟨u, hu, ru⟩ := rv.get hx
    have hel : en < s.heap.objs.size := Heap.lt_size he
    have hil : it < s.heap.objs.size := by obtain ⟨_, q, _⟩ := hit; exact Heap.lt_size q
    have hil' : i < its.length := (List.getElem?_eq_some_iff.mp hu).1
    have hat : a ≠ it := fun z => by
      obtain ⟨o1, q1, c1, _⟩ := p
      obtain ⟨o2, q2, c2, _⟩ := hit
      rw [z, q2] at q1
      cases q1
      rw [c1] at c2
      exact absurd c2 (by decide)
    have hae : en ≠ a := fun z => by
      obtain ⟨o1, q1, c1, _⟩ := p
      rw [← z, he] at q1
      cases q1
      exact absurd (Value.type.inj c1) (by decide)
    have hh : X.A.in1.handled = none := I.ok.hd hc
    refine wpAny_pyNext_enum_itemD (Draws.tuple (prog := X.prog) (w := X.w) hh it a hat its.toArray) he ⟨hit, p⟩ (by simpa using hil') hne (by simp [hne, hae]) fun y h' tk hy ho hst hT hsz hk => ?_
    have hy' : y = u := by
      have hy : its.toArray[i]? = some y := hy
      rw [List.getElem?_toArray, hu] at hy
      exact (Option.some.inj hy).symm
    subst hy'
    obtain ⟨hit', _⟩ := hst
    refine ⟨_, rfl, wpAny_letOwnedTupleGo_enum (s := { s with heap := h', toks := tk + 1 }) ho fun h'' he' sb => ?_⟩
    have hT2 : h''.get? s.heap.objs.size = some { cls := .type "tuple", data := .seq #[.int i tk, y] } := (sb.2 _ (Nat.ne_of_gt hel)).trans hT
    have new : ObjOk X.prog X.w (upd H s.heap.objs.size (.tup [.int (i : Nat), x])) h'' s.heap.objs.size (.tup [.int (i : Nat), x]) :=
      ⟨by show 2 ≤ sizeLine; decide, [.int i tk, y], .cons ⟨_, rfl⟩ (.cons ru .nil), ⟨_, hT2, rfl, _, rfl⟩⟩
    have I1 : Inv X pins σ (upd H s.heap.objs.size (.tup [.int (i : Nat), x])) { s with heap := h'', toks := tk + 1 } :=
      I.turnedNew (ch := [en, it]) (fun b ob hb q => (sb.2 b (fun z => hb (by simp [z]))).trans (hk b ob (fun z => hb (by simp [z])) (fun z => hb (by simp [z])) q)) hf (Nat.le_refl _) new
    refine ⟨.ref s.heap.objs.size, _, I1, rfl, ⟨_, x, rfl, I.hok.fresh (Nat.le_refl _), rfl, fun ys hys => by rw [I.tuple_inj hys hq]; exact hx⟩, ⟨⟨y, ?_⟩, hit'.at fun o q => (sb.2 it (Ne.symm hne)).trans q, hne⟩, fun b hb => ?_⟩
    · have e1 : ((i + 1 : Nat) : Int) = (i : Int) + 1 := by omega
      rw [e1]; exact he'
    · have hb' : b < s.heap.objs.size := by
        have e' : b = en ∨ b = it := by simpa using hb
        rcases e' with z | z
        · rw [z]; exact hel
        · rw [z]; exact hil
      rw [upd_ne (Nat.ne_of_lt hb')]
      exact (hf b hb).1
  done := by
    intro X hP hw hK hc i pins s σ H E I hf stt hg
    subst hP hw hK
    obtain ⟨⟨old, he⟩, hit, hne⟩ := stt
    obtain ⟨xs, hq, hx⟩ := hg
    obtain ⟨its, rv, p, hz⟩ := I.tuple hq
    obtain ⟨f0, f1, f2, f3, f4, f5⟩ := hf it (by simp)
    have hl := rv.length
    have hat : a ≠ it := fun z => by
      obtain ⟨o1, q1, c1, _⟩ := p
      obtain ⟨o2, q2, c2, _⟩ := hit
      rw [z, q2] at q1
      cases q1
      rw [c1] at c2
      exact absurd c2 (by decide)
    have hh : X.A.in1.handled = none := I.ok.hd hc
    subst hx
    have hsz : its.toArray.size = xs.length := by rw [List.size_toArray, hl]
    exact wpAny_pyNext_enum_endD (n := xs.length) (by rw [← hsz]; exact Draws.tuple (prog := X.prog) (w := X.w) hh it a hat its.toArray) he (show s.heap.IsTupleIter it a xs.length ∧ s.heap.IsTuple a its.toArray from ⟨hit, p⟩) fun h' eb => ⟨rfl, I.turned (t' := s.toks) (fun b o hb q => eb b o hb q) f0 f1 f3 f4 f5⟩
  self := fun A i s Q E stt h => let ⟨⟨_, he⟩, _⟩ := stt; wpAny_pyIter_enum he h
/-- a list or a tuple -/
def iEnA (K : PySem.W.Frag) (ta : TA) : TI := fun σ H R => ta σ H fun vs H1 => ∃ p xs, vs = [.ref p] ∧ ((SqL K H1 p xs ∧ R (Ite K p) H1) ∨ (SqT K H1 p xs ∧ R (ItE K p) H1))
theorem pi_enumA {X : Cx} {e : Expr} {ta : TA} {p pos tpos : Pos} {elts : List Expr} {kk : Nat} (hg : Gl X "enumerate") (hm : X.mg "enumerate" = none) (ha : PA X [e] ta) (hs : starEach [e] X.env = [(false, eval e X.env)] := by rfl) :
    PI X (.Tuple elts kk tpos) (.Call (.Name "enumerate" p) [e] [] pos) (iEnA X.K ta) := by
  refine ⟨fun pins st sl Hp0 R I0 hh => ?_⟩
  refine Call_ (ld_blt I0 hg hm boot_enumerate (PyProof.Rows.callWith_type1 (thn (ha.run pos pins st sl Hp0 _ I0 hh) fun us s1 ⟨vs, H1, I1, r1, q1⟩ => ?_) hs rfl))
  obtain ⟨l, xs, ex, q1⟩ := q1
  subst ex
  cases r1 with
  | cons r rr =>
    cases rr
    cases r
    have fp : ∀ b ∈ [s1.heap.objs.size + 1, s1.heap.objs.size], FpOk X pins H1 b := fun b hb => by
      have e' : b = s1.heap.objs.size + 1 ∨ b = s1.heap.objs.size := by simpa using hb
      have hle : s1.heap.objs.size ≤ b := by
        rcases e' with z | z
        · rw [z]; exact Nat.le_add_right _ _
        · rw [z]; exact Nat.le_refl _
      exact I1.fpOk hle (I1.hok.fresh hle)
    rcases q1 with ⟨hq, q⟩ | ⟨hq, q⟩
    · obtain ⟨its, rv, pl, hz⟩ := I1.list hq
      refine call_enumerate_list pl.isList fun h' he hit hsz hk => wpAny_pyIter_enum he ?_
      exact ⟨s1.heap.objs.size + 1, [s1.heap.objs.size + 1, s1.heap.objs.size], _, _, H1, rfl, I1.kept (t' := s1.toks) hk, turn_enum l _ _, ⟨⟨.none, he⟩, hit, Nat.succ_ne_self _⟩, fp, q⟩
    · obtain ⟨its, rv, pl, hz⟩ := I1.tuple hq
      refine enum1 (begins_tuple l its.toArray) (show s1.heap.IsTuple l its.toArray from pl) fun h' he hit hsz hk => wpAny_pyIter_enum he ?_
      exact ⟨s1.heap.objs.size + 1, [s1.heap.objs.size + 1, s1.heap.objs.size], _, _, H1, rfl, I1.kept (t' := s1.toks) hk, turn_enumT l _ _, ⟨⟨.none, he⟩, ⟨_, hit, rfl, rfl⟩, Nat.succ_ne_self _⟩, fp, q⟩
def enD (i : Nat) : List D → List D
  | [] => []
  | d :: ds => .tup [.int (i : Nat), d] :: enD (i + 1) ds
theorem enD_get : ∀ {ds : List D} {j i : Nat} {d : D}, (enD j ds)[i]? = some d → ∃ x, ds[i]? = some x ∧ d = .tup [.int ((j + i : Nat) : Int), x]
  | [], _, _, _, h => by simp [enD] at h
  | x :: ds, j, 0, d, h => by simp [enD] at h; exact ⟨x, rfl, h.symm⟩
  | x :: ds, j, i + 1, d, h => by
    simp only [enD, List.getElem?_cons_succ] at h
    obtain ⟨y, hy, e⟩ := enD_get h
    exact ⟨y, by simpa using hy, by rw [e, show j + 1 + i = j + (i + 1) by omega]⟩
theorem enD_length : ∀ {ds : List D} {j : Nat}, (enD j ds).length = ds.length
  | [], _ => rfl
  | x :: ds, j => by rw [enD, List.length_cons, List.length_cons, enD_length]
section
variable {X : Cx} {B : Bs} {a b c e elt tg iter : Expr} {es : List Expr} {pos : Pos} {wa wb wc we : TD} {ws : TDA} {wt wu : TDT} {wg : TDG} {wgs : TDGs} {K : PySem.W.Frag} {ix ix' : List Nat} {st : Stmt}
theorem itOk_enumL {p : Addr} {l : List D} {τ τ'' : List (V × RV)} : ItOk K B (Ite K p) (enD 0 l) (τ ++ [(.ref p, .val (.lst l))] ++ τ'') := fun G H σ ρ n i e => by
  have rv := e.tmAt
  cases rv with
  | lst g q rl =>
    refine ⟨fun hi => ⟨_, SqL.of q, by rw [rl.length, hi, enD_length]; exact Nat.le_refl _⟩, fun d hd => ?_⟩
    obtain ⟨x, hx, rfl⟩ := enD_get hd
    obtain ⟨v, hv, rep⟩ := rl.get hx
    refine ⟨⟨_, v, SqL.of q, hv⟩, fun z H' ⟨T, x', ez, nT, eH, f1⟩ => ?_⟩
    subst ez eH
    have e1 := (f1 _ (SqL.of q)).symm.trans hv
    cases e1
    rw [Nat.zero_add]
    exact ⟨_, e.pushTup nT (.cons (.int _) (.cons rep .nil))⟩
theorem itOk_enumT {p : Addr} {l : List D} {τ τ'' : List (V × RV)} : ItOk K B (ItE K p) (enD 0 l) (τ ++ [(.ref p, .val (.tup l))] ++ τ'') := fun G H σ ρ n i e => by
  have rv := e.tmAt
  cases rv with
  | tup q rl =>
    replace q := SqT.of (K := K) q
    refine ⟨fun hi => ⟨_, q, by rw [rl.length, hi, enD_length]⟩, fun d hd => ?_⟩
    obtain ⟨x, hx, rfl⟩ := enD_get hd
    obtain ⟨v, hv, rep⟩ := rl.get hx
    refine ⟨⟨_, v, q, hv⟩, fun z H' ⟨T, x', ez, nT, eH, f1⟩ => ?_⟩
    subst ez eH
    have e1 := (f1 _ q).symm.trans hv
    cases e1
    rw [Nat.zero_add]
    exact ⟨_, e.pushTup nT (.cons (.int _) (.cons rep .nil))⟩
def wiEn (ws : TDA) : TDI := fun ρ n Q => ws ρ n fun rs ρ1 n1 => ∃ r l, rs = [r] ∧ seqOf r = some l ∧ Q (enD 0 l) ρ1 n1
theorem di_enum {tpos : Pos} {elts : List Expr} {kk : Nat} (h : PI X (.Tuple elts kk tpos) iter (iEnA X.K (tDA X.K B ws))) : DI X B (.Tuple elts kk tpos) iter (wiEn ws) :=
  PI.imp h fun σ H R ⟨G, ρ, n, τ, Q', e, hw, k⟩ => ⟨G, ρ, n, τ, _, e, hw, fun rs ρ1 n1 vs G1 H1 ⟨r, l, hr, hs, h1⟩ hl e1 => by
    subst hr
    obtain ⟨v, rfl⟩ := len1 hl
    have e1 : EnvOk X.K B.1 B.2 G1 H1 σ ρ1 n1 (τ ++ [(v, r)]) := e1
    obtain ⟨G2, x2, e2⟩ := e1.freeze
    rw [frz_val] at e2
    have rv := e2.topV
    cases r with
    | newD t m => cases hs
    | new l' =>
      cases hs
      cases rv with
      | lst g q rl => exact ⟨_, _, rfl, .inl ⟨SqL.of q, k _ ρ1 n1 _ _ _ _ h1 (fun _ => itOk_enumL) e2⟩⟩
    | val d =>
      cases d with
      | lst l' => cases hs; cases rv with | lst g q rl => exact ⟨_, _, rfl, .inl ⟨SqL.of q, k _ ρ1 n1 _ _ _ _ h1 (fun _ => itOk_enumL) e2⟩⟩
      | tup l' => cases hs; cases rv with | tup q rl => exact ⟨_, _, rfl, .inr ⟨SqT.of q, k _ ρ1 n1 _ _ _ _ h1 (fun _ => itOk_enumT) e2⟩⟩
      | _ => cases hs⟩
/-! ### a, b = x, y where a tuple is made: new lists stay the names' own -/
theorem ds_par2c {i j : Nat} (h : PS X st (tAsg (tTup (tDA X.K B ws)) (gTup X.K 2 (gCons (gName i) (gCons (gName j) gNil))))) : DS X B st (wPar2 i j ws) :=
  PS.imp h fun D σ H ⟨G, ρ, n, τ, D', e, hw, k, _⟩ => ⟨G, ρ, n, τ, _, e, hw, fun rs ρ' n' vs G' H' ⟨r, s, hr, h1⟩ hl e' => by
    subst hr
    obtain ⟨v, v', rfl⟩ := len2 hl
    refine ⟨by show 2 ≤ sizeLine; decide, fun p hp => ⟨p, [v, v'], rfl, SqT.of upd_same, rfl, v, [v'], rfl, v', [], rfl, rfl, ?_⟩⟩
    have e1 := (zip2 e').alloc hp (.tup [v, v']) .free (by simp)
    obtain ⟨G2, e2⟩ := e1.assignAt (j := τ.length) (i := i) (v := v) (r := r) (by simp)
    obtain ⟨G3, e3⟩ := e2.assignAt (j := τ.length + 1) (i := j) (v := v') (r := s) (by simp)
    refine k _ _ _ G3 _ h1 (e3.sub fun m x hm => ?_)
    have hml := (List.getElem?_eq_some_iff.mp hm).1
    rw [List.getElem?_set_ne (by omega), List.getElem?_set_ne (by omega), List.append_assoc, List.getElem?_append_left hml]
    exact hm⟩
theorem ds_par3c {i j l : Nat} (h : PS X st (tAsg (tTup (tDA X.K B ws)) (gTup X.K 3 (gCons (gName i) (gCons (gName j) (gCons (gName l) gNil)))))) : DS X B st (wPar3 i j l ws) :=
  PS.imp h fun D σ H ⟨G, ρ, n, τ, D', e, hw, k, _⟩ => ⟨G, ρ, n, τ, _, e, hw, fun rs ρ' n' vs G' H' ⟨r, s, t, hr, h1⟩ hl e' => by
    subst hr
    obtain ⟨v, v', v'', rfl⟩ := len3 hl
    refine ⟨by show 3 ≤ sizeLine; decide, fun p hp => ⟨p, [v, v', v''], rfl, SqT.of upd_same, rfl, v, [v', v''], rfl, v', [v''], rfl, v'', [], rfl, rfl, ?_⟩⟩
    have e1 := (zip3 e').alloc hp (.tup [v, v', v'']) .free (by simp)
    obtain ⟨G2, e2⟩ := e1.assignAt (j := τ.length) (i := i) (v := v) (r := r) (by simp)
    obtain ⟨G3, e3⟩ := e2.assignAt (j := τ.length + 1) (i := j) (v := v') (r := s) (by simp)
    obtain ⟨G4, e4⟩ := e3.assignAt (j := τ.length + 2) (i := l) (v := v'') (r := t) (by simp)
    refine k _ _ _ G4 _ h1 (e4.sub fun m x hm => ?_)
    have hml := (List.getElem?_eq_some_iff.mp hm).1
    rw [List.getElem?_set_ne (by omega), List.getElem?_set_ne (by omega), List.getElem?_set_ne (by omega), List.getElem?_append_left hml]
    exact hm⟩
/-! ### dicts that nobody looks into -/
def wDct : TD := fun ρ n Q => Q (.val .dct) ρ n
theorem EnvOk.pushDct {G0 G : Gh} {H0 H : Hp} {σ : L2.St} {ρ : List SV} {n : Nat} {τ : List (V × RV)} {p : Addr} {kvs : List (Key × V)} (e : EnvOk K G0 H0 G H σ ρ n τ) (hp : H p = none) : EnvOk K G0 H0 (updG G p .fro) (upd H p (.dK kvs)) σ ρ n (τ ++ [(.ref p, .val .dct)]) :=
  (e.alloc hp (.dK kvs) .fro (by simp)).pushV (.dct updG_same upd_same (.inl ⟨_, rfl⟩))
theorem de_dict0 (h : PE X e tDNewK) : DE X B e wDct := PE.imp h fun σ H Q ⟨G, ρ, n, τ, Q', e, hw, k⟩ => fun p hp => k _ _ _ _ _ _ hw (e.pushDct hp)
def isSet : SV → Bool
  | .un => false
  | _ => true
def wDct1 (i : Nat) : TD := fun ρ n Q => (∃ s, ρ[i]? = some s ∧ isSet s = true) ∧ Q (.val .dct) ρ n
theorem slot_set {G : Gh} {H : Hp} {o : Option (Option V)} {i : Nat} {s : SV} (h : SlotOk K G H o i s) (hs : isSet s = true) : ∃ v, o = some (some v) := by
  cases s with
  | un => cases hs
  | val d => obtain ⟨v, e, _⟩ := h; exact ⟨v, e⟩
  | own l => obtain ⟨a, vs, e, _⟩ := h; exact ⟨_, e⟩
  | ownD t m => obtain ⟨a, vs, e, _⟩ := h; exact ⟨_, e⟩
  | err a d nms ds => exact ⟨_, h.1⟩
theorem de_dict1 {i : Nat} {k : Int} (h : PE X e (tDisp [(tC (.int k), tVar i)])) : DE X B e (wDct1 i) := PE.imp h fun σ H Q ⟨G, ρ, n, τ, Q', e, ⟨⟨s, hs, hi⟩, hw⟩, kk⟩ => fun p hp => by
  obtain ⟨v, hv⟩ := slot_set (e.sl i s hs) hi
  refine ⟨v, hv, upd_same, [(Sum.inl k, v)], rfl, by rw [List.length_singleton]; decide, ?_⟩
  rw [upd_upd]
  exact kk _ _ _ _ _ _ hw (e.pushDct hp)
/-! ### a call without arguments -/
def wCall0 (c : Ctr) : TD := fun ρ n Q => c [] n fun d n2 => Q (.val d) ρ n2
theorem de_call0 {c : Ctr} {E : XK} (h : PE X e (tCall (spC X.K 0 c) [] E tNil)) : DE X B e (wCall0 c) :=
  PE.imp h fun σ H Q ⟨G, ρ, n, τ, Q', e, hw, k⟩ => by
    obtain ⟨g0, x3⟩ := e.out
    refine ⟨outG G, [], n, _, g0, rfl, .nil, hw, fun d n2 v G' H' h2 gr bg fh rv => ?_⟩
    obtain ⟨e3, x4⟩ := e.back gr bg fh
    exact k _ _ _ _ _ _ h2 (e3.pushV (rv.mono x4))
end
end Ly

namespace Ly
open PySem PySem.Spec PyProof.Rows L2
/-! ### repr -/
def rRepr (K : PySem.W.Frag) : List V → Hp → VK → Prop := fun xs H Q => ∃ v p, xs = [v] ∧ Dp K H v p ∧ p.showable = true ∧ p.hasDict = false ∧ p.depth ≤ 60 ∧ p.shown.length ≤ sizeLine ∧ Q (.str p.shown) H
theorem call_reprD {X : Cx} (hg : X.A.guards = some []) (hu : X.A.units + 64 < cLine) : CallR X (.builtin "repr") (rRepr X.K) := by
  intro pins st sl H xs us Q I r hh
  obtain ⟨v, p, rfl, hd, hs, hnd, hdep, hz, q⟩ := hh
  obtain ⟨u, rfl, ru⟩ := vals1 r
  obtain ⟨as, rd⟩ := Dp.reads I p v u hd ru
  cases hd with
  | non => cases ru; exact PySem.P.repr_of_none ⟨.str _, H, I.tok _, ⟨_, rfl⟩, by simpa [PyData.shown] using q⟩
  | bl b => cases ru; exact PySem.P.repr_of_bool ⟨.str _, H, I.tok _, ⟨_, rfl⟩, by cases b <;> simpa [PyData.shown] using q⟩
  | int i => obtain ⟨t, rfl⟩ := ru; exact PySem.P.repr_of_int (by simpa [PyData.showable] using hs) ⟨.str _, H, I.tok _, ⟨_, rfl⟩, by simpa [PyData.shown] using q⟩
  | str x => obtain ⟨t, rfl⟩ := ru; exact PySem.P.repr_of_str ⟨.str _, H, I.tok _, ⟨_, rfl⟩, by simpa [PyData.shown] using q⟩ (by simpa [PyData.shown] using hz)
  | lst hs' ha =>
    cases ru
    exact repr_of_reads' rd hs (PyData.noDict_hsm hnd) hg (by omega) (fun _ _ e => e) (fun h' u tk hk => ⟨.str _, H, I.kept (h' := h') (t' := tk) hk, ⟨_, rfl⟩, q⟩) hz
  | tup hs' ha =>
    cases ru
    exact repr_of_reads' rd hs (PyData.noDict_hsm hnd) hg (by omega) (fun _ _ e => e) (fun h' u tk hk => ⟨.str _, H, I.kept (h' := h') (t' := tk) hk, ⟨_, rfl⟩, q⟩) hz
section
variable {B : Bs} {K : PySem.W.Frag}
/-- what repr may be asked of here -/
def shows (p : PyData) : Prop := p.showable = true ∧ p.hasDict = false ∧ p.depth ≤ 60 ∧ p.shown.length ≤ sizeLine
def gRepr : G1 := fun rs R => ∃ r p, rs = [r] ∧ toPy (dOf r) = some p ∧ shows p ∧ R (.val (.str p.shown))
theorem snd_repr : SndC K B gRepr (rRepr K) := by
  rintro G H σ ρ n τ vs rs R Q e hl ⟨r, p, rfl, hp, ⟨h1, h2, h3, h4⟩, hR⟩ k
  obtain ⟨v, rfl⟩ := len1 hl
  have e : EnvOk K B.1 B.2 G H σ ρ n (τ ++ [(v, r)]) := e
  exact ⟨v, p, rfl, e.top.dp hp, h1, h2, h3, h4, k _ _ _ _ hR (e.pop.pushV (.str _))⟩
end
end Ly

namespace Ly
open PySem PySem.Spec PyProof.Rows L2
/-! ### dicts that a name owns: keys ints and texts, or tuples of such -/
def kD : Key → D
  | .inl i => .int i
  | .inr x => .str x
def keysOf : List D → Option (List Key)
  | [] => some []
  | .int i :: r => (keysOf r).map (.inl i :: ·)
  | .str x :: r => (keysOf r).map (.inr x :: ·)
  | _ :: _ => none
def dkey (t : Bool) (d : D) : Option (List Key) := match t, d with
  | false, .int i => some [.inl i]
  | false, .str x => some [.inr x]
  | true, .tup ds => keysOf ds
  | _, _ => none
def valD (m : List (List Key × D)) (k : List Key) : Option D := (m.find? fun p => decide (p.1 = k)).map (·.2)
def putD (m : List (List Key × D)) (k : List Key) (d : D) : List (List Key × D) :=
  if (m.any fun p => decide (p.1 = k)) = true then m.map (fun p => if p.1 = k then (p.1, d) else p) else m ++ [(k, d)]
section
variable {K : PySem.W.Frag} {G G0 G' : Gh} {H H0 H' : Hp} {m : List (List Key × D)} {vs : List (List Key × V)} {k : List Key} {v : V} {d : D}
theorem keys_rep : ∀ {ds : List D} {ws : List V} {ks : List Key}, RepL K G H ws ds → keysOf ds = some ks → ws = ks.map kV
  | [], _, _, .nil, e => by cases e; rfl
  | d :: ds, _, _, .cons r t, e => by
    cases d with
    | int i =>
      simp only [keysOf] at e
      cases h : keysOf ds with
      | none => rw [h] at e; cases e
      | some z => rw [h] at e; cases e; cases r; rw [keys_rep t h]; rfl
    | str i =>
      simp only [keysOf] at e
      cases h : keysOf ds with
      | none => rw [h] at e; cases e
      | some z => rw [h] at e; cases e; cases r; rw [keys_rep t h]; rfl
    | _ => cases e
theorem RepM.val : ∀ {vs : List (List Key × V)} {m : List (List Key × D)}, RepM K G H vs m → (∀ d, valD m k = some d → ∃ v, valV vs k = some v ∧ Rep K G H v d) ∧ (valV vs k).isSome = (valD m k).isSome
  | _, _, .nil => ⟨fun d e => (by cases e), rfl⟩
  | _, _, .cons (k := k') (d := d') r t => by
    by_cases h : k' = k
    · have e : ∀ ds, valD ((k', d') :: ds) k = some d' := fun ds => by unfold valD; rw [List.find?_cons, decide_eq_true h]; rfl
      rw [valV_pos h, e]
      exact ⟨fun d q => by cases q; exact ⟨_, rfl, r⟩, rfl⟩
    · have e : ∀ ds, valD ((k', d') :: ds) k = valD ds k := fun ds => by unfold valD; rw [List.find?_cons, decide_eq_false h]
      rw [valV_neg h, e]
      exact RepM.val t
theorem any_valD (k : List Key) : ∀ m : List (List Key × D), (m.any fun p => decide (p.1 = k)) = (valD m k).isSome
  | [] => rfl
  | p :: r => by
    by_cases h : p.1 = k
    · unfold valD; rw [List.any_cons, List.find?_cons, decide_eq_true h]; rfl
    · unfold valD; rw [List.any_cons, List.find?_cons, decide_eq_false h, Bool.false_or]; exact any_valD k r
theorem RepM.app : ∀ {vs : List (List Key × V)} {m : List (List Key × D)}, RepM K G H vs m → Rep K G H v d → RepM K G H (vs ++ [(k, v)]) (m ++ [(k, d)])
  | _, _, .nil, rv => .cons rv .nil
  | _, _, .cons r t, rv => .cons r (t.app rv)
theorem RepM.upd (rv : Rep K G H v d) : ∀ {vs : List (List Key × V)} {m : List (List Key × D)}, RepM K G H vs m → RepM K G H (vs.map fun p => if p.1 = k then (p.1, v) else p) (m.map fun p => if p.1 = k then (p.1, d) else p)
  | _, _, .nil => .nil
  | _, _, .cons (k := k') r t => by
    rw [List.map_cons, List.map_cons]
    by_cases h : k' = k
    · rw [if_pos h, if_pos h]; exact .cons rv (t.upd rv)
    · rw [if_neg h, if_neg h]; exact .cons r (t.upd rv)
theorem RepM.put (h : RepM K G H vs m) (rv : Rep K G H v d) : RepM K G H (putK vs k v) (putD m k d) := by
  unfold putK putD
  rw [valV_any, any_valD, (h.val (k := k)).2]
  split
  · exact h.upd rv
  · exact h.app rv
theorem val_one (k : Key) : ∀ vs : List (Key × V), valV (vs.map fun p => ([p.1], p.2)) [k] = valV vs k
  | [] => rfl
  | p :: r => by
    rw [List.map_cons]
    by_cases h : p.1 = k
    · rw [valV_pos h, valV_pos (by rw [h])]
    · rw [valV_neg h, valV_neg (by simpa using h)]; exact val_one k r
theorem put_one (k : Key) (v : V) (vs : List (Key × V)) : putK (vs.map fun p => ([p.1], p.2)) [k] v = (putK vs k v).map fun p => ([p.1], p.2) := by
  unfold putK
  rw [valV_any, valV_any, val_one]
  split
  · rw [List.map_map, List.map_map]
    refine List.map_congr_left fun p _ => ?_
    by_cases h : p.1 = k
    · simp [h]
    · simp [h]
  · simp
/-- what the dict holds there -/
theorem OwnD.get {t : Bool} {u : HO} {a : Addr} {y : V} {dk : D} (h : OwnD K G H t u m) (ha : H a = some u) (hk : dkey t dk = some k) (ry : Rep K G H y dk) :
    ∃ o, DGet H a y o ∧ (∀ d, valD m k = some d → ∃ v, o = some v ∧ Rep K G H v d) ∧ o.isSome = (valD m k).isSome := by
  cases t with
  | true =>
    obtain ⟨vs, rfl, r⟩ := h
    cases dk with
    | tup ds =>
      cases ry with
      | tup q rl =>
        have e := keys_rep rl hk
        rw [e] at q
        exact ⟨_, DGet.t ha q, (r.val (k := k)).1, (r.val (k := k)).2⟩
    | _ => cases hk
  | false =>
    obtain ⟨vs, rfl, r⟩ := h
    have one : ∀ (kk : Key), y = kV kk → k = [kk] → ∃ o, DGet H a y o ∧ (∀ d, valD m k = some d → ∃ v, o = some v ∧ Rep K G H v d) ∧ o.isSome = (valD m k).isSome := by
      rintro kk rfl rfl
      have := r.val (k := [kk])
      rw [val_one] at this
      exact ⟨_, DGet.k ha, this.1, this.2⟩
    cases dk with
    | int i => cases hk; cases ry; exact one (.inl i) rfl rfl
    | str i => cases hk; cases ry; exact one (.inr i) rfl rfl
    | _ => cases hk
theorem OwnD.len {t : Bool} {u : HO} (h : OwnD K G H t u m) : (∃ vs, u = .dT vs ∧ vs.length = m.length) ∨ ∃ vs, u = .dK vs ∧ vs.length = m.length := by
  cases t with
  | true => obtain ⟨vs, e, r⟩ := h; exact .inl ⟨vs, e, r.length⟩
  | false => obtain ⟨vs, e, r⟩ := h; exact .inr ⟨vs, e, by rw [← r.length, List.length_map]⟩
theorem OwnD.put {t : Bool} {u : HO} {a : Addr} {y : V} {dk : D} (h : OwnD K G H t u m) (ha : H a = some u) (hk : dkey t dk = some k) (ry : Rep K G H y dk) (rv : Rep K G H v d) (hl : m.length < sizeLine) :
    ∃ u', DPut H a y v (upd H a u') ∧ OwnD K G H t u' (putD m k d) := by
  cases t with
  | true =>
    obtain ⟨vs, rfl, r⟩ := h
    cases dk with
    | tup ds =>
      cases ry with
      | tup q rl =>
        have e := keys_rep rl hk
        rw [e] at q
        exact ⟨_, DPut.t ha q (by rw [r.length]; exact hl), _, rfl, r.put rv⟩
    | _ => cases hk
  | false =>
    obtain ⟨vs, rfl, r⟩ := h
    have hl' : vs.length < sizeLine := by rw [← r.length, List.length_map] at hl; exact hl
    have one : ∀ (kk : Key), y = kV kk → k = [kk] → ∃ u', DPut H a y v (upd H a u') ∧ OwnD K G H false u' (putD m k d) := by
      rintro kk rfl rfl
      have := r.put (k := [kk]) rv
      rw [put_one] at this
      exact ⟨_, DPut.k ha hl', _, rfl, this⟩
    cases dk with
    | int i => cases hk; cases ry; exact one (.inl i) rfl rfl
    | str i => cases hk; cases ry; exact one (.inr i) rfl rfl
    | _ => cases hk
theorem OwnD.notT {t : Bool} {u : HO} (h : OwnD K G H t u m) : (∀ xs, u ≠ .tup xs) ∧ (∀ o w, u ≠ .frz o w) := by
  rcases h.isD with ⟨kvs, rfl⟩ | ⟨kvs, rfl⟩
  · exact ⟨fun _ z => (by cases z), fun _ _ z => (by cases z)⟩
  · exact ⟨fun _ z => (by cases z), fun _ _ z => (by cases z)⟩
/-- a name's own dict is changed -/
theorem EnvOk.mutD {σ : L2.St} {ρ : List SV} {n : Nat} {τ : List (V × RV)} {i : Nat} {t : Bool} {a : Addr} {u u' : HO} {m' : List (List Key × D)} (e : EnvOk K G0 H0 G H σ ρ n τ) (h : ρ[i]? = some (.ownD t m)) (ea : σ[i]? = some (some (.ref a))) (g : G a = .slot i) (ha : H a = some u)
    (ow : OwnD K G H t u m) (ow' : OwnD K G H t u' m') : Ext G H G (upd H a u') ∧ EnvOk K G0 H0 G (upd H a u') σ (ρ.set i (.ownD t m')) n τ := by
  have h0 := e.notIn (.inl ⟨i, g⟩)
  have nt := ow.notT
  have x : Ext G H G (upd H a u') := by
    refine ⟨fun c q => ⟨q, fun w z => ?_⟩, fun c xs q => ?_, fun c ob w q => ?_, fun _ _ q => q⟩
    · rw [upd_ne (fun y => by subst y; rw [q] at g; cases g)]; exact z
    · rw [upd_ne (fun y => by subst y; rw [q] at ha; cases ha; exact nt.1 _ rfl)]; exact q
    · rw [upd_ne (fun y => by subst y; rw [q] at ha; cases ha; exact nt.2 _ _ rfl)]; exact q
  refine ⟨x, ⟨fun c w q h1 h2 => ?_, e.gr.bagd, e.gr.bagl, fun c xs q => x.tup c xs (e.gr.tup c xs q), fun c ob w q => x.frz c ob w (e.gr.frz c ob w q)⟩, e.ns, e.nt, fun c b q => ?_, fun c q => ?_, by rw [List.length_set]; exact e.ln, fun j s hs => ?_, fun j v' r' hh => (e.tm j v' r' hh).mono x fun c vs g' q => ⟨g', ?_⟩⟩
  · have hc : c ≠ a := fun z => by subst z; rw [h0] at q; cases q
    rw [upd_ne hc]; exact e.gr.keep c w q h1 h2
  · obtain ⟨gb, far, s, t, hc, hb, z⟩ := e.bg c b q
    refine ⟨gb, far, s, t, by rw [upd_ne (fun y => by subst y; rw [q] at g; cases g)]; exact hc, by rw [upd_ne (fun y => by subst y; rw [gb] at g; cases g)]; exact hb, z⟩
  · by_cases hc : c = a
    · subst hc; rw [upd_same] at q; cases q
    · rw [upd_ne hc] at q; exact e.fh c q
  · by_cases hj : j = i
    · subst hj
      have hl : j < ρ.length := (List.getElem?_eq_some_iff.mp h).1
      rw [List.getElem?_set_self hl] at hs
      cases hs
      exact ⟨a, u', ea, g, upd_same, ow'.mono x⟩
    · rw [List.getElem?_set_ne (Ne.symm hj)] at hs
      refine (e.sl j s hs).mono x fun c vs g' q => ⟨g', ?_⟩
      rw [upd_ne (fun y => by subst y; rw [g] at g'; cases g'; exact hj rfl)]; exact q
  · rw [upd_ne (fun y => by subst y; rw [g] at g'; cases g')]; exact q
end
section
variable {X : Cx} {B : Bs} {a b c e o i : Expr} {es : List Expr} {pos pos' : Pos} {wa wb wc : TD} {ws : TDA} {wt : TDT} {j : Nat}
def wDNew (t : Bool) : TD := fun ρ n Q => Q (.newD t []) ρ n
theorem de_dnewT : DE X B (.Dict [] [] pos) (wDNew true) := PE.imp pe_dnewT fun σ H Q ⟨G, ρ, n, τ, Q', e, hw, k⟩ => fun p hp =>
  k _ _ _ _ _ _ hw ((e.alloc hp (.dT []) (.tmp τ.length) (by simp)).push ⟨p, _, rfl, updG_same, upd_same, [], rfl, .nil⟩)
theorem de_dnewK : DE X B (.Dict [] [] pos) (wDNew false) := PE.imp pe_dnewK fun σ H Q ⟨G, ρ, n, τ, Q', e, hw, k⟩ => fun p hp =>
  k _ _ _ _ _ _ hw ((e.alloc hp (.dK []) (.tmp τ.length) (by simp)).push ⟨p, _, rfl, updG_same, upd_same, [], rfl, .nil⟩)
def isOwnD : SV → Bool
  | .ownD _ _ => true
  | _ => false
theorem isOwnD_iff {s : SV} (h : isOwnD s = true) : ∃ t m, s = .ownD t m := by
  cases s with
  | ownD t m => exact ⟨_, _, rfl⟩
  | _ => cases h
def wDGet (j : Nat) (wb : TD) : TD := fun ρ n Q => (∃ s, ρ[j]? = some s ∧ isOwnD s = true) ∧ wb ρ n fun r ρ1 n1 => ∃ dk t m k d, r = .val dk ∧ ρ1[j]? = some (.ownD t m) ∧ dkey t dk = some k ∧ valD m k = some d ∧ Q (.val d) ρ1 n1
theorem de_dget (hu : X.A.units + 1 < cLine) (ho : PE X o (tVar j)) (hi : DE X B i wb) (hs : NoSl i) : DE X B (.Subscript o i pos) (wDGet j wb) :=
  PE.imp (pe_dget hu ho hi hs) fun σ H Q ⟨G, ρ, n, τ, Q', e, ⟨⟨s, hs, hd⟩, hw⟩, k⟩ => by
    obtain ⟨t0, m0, rfl⟩ := isOwnD_iff hd
    obtain ⟨a0, u0, ea0, _⟩ := e.sl j _ hs
    refine ⟨_, ea0, G, ρ, n, τ, _, e, hw, fun r ρ1 n1 v G1 H1 ⟨dk, t, m, kk, d, hr, hj, hk, hv, hq⟩ e1 => ?_⟩
    subst hr
    obtain ⟨a, u, ea, g, ha, ow⟩ := e1.sl j _ hj
    cases ea0.symm.trans ea
    obtain ⟨o, hg, h1, h2⟩ := ow.get ha hk e1.topV
    obtain ⟨v', rfl, rv⟩ := h1 d hv
    exact ⟨_, v', rfl, hg, k _ _ _ _ _ _ hq (e1.pop.pushV rv)⟩
def wDIn (neg : Bool) (j : Nat) (wb : TD) : TD := fun ρ n Q => wb ρ n fun r ρ1 n1 => ∃ dk t m k, r = .val dk ∧ ρ1[j]? = some (.ownD t m) ∧ dkey t dk = some k ∧ Q (.val (.bl (xor neg (valD m k).isSome))) ρ1 n1
theorem tDIn_of {K : PySem.W.Frag} {σ : L2.St} {H : Hp} {Q : VK} (h : tD K B (wDIn false j wb) σ H Q) : tDIn (tD K B wb) (tVar j) σ H Q := by
  obtain ⟨G, ρ, n, τ, Q', e, hw, k⟩ := h
  refine ⟨G, ρ, n, τ, _, e, hw, fun r ρ1 n1 v G1 H1 ⟨dk, t, m, kk, hr, hj, hk, hq⟩ e1 => ?_⟩
  subst hr
  obtain ⟨a, u, ea, g, ha, ow⟩ := e1.sl j _ hj
  obtain ⟨o, hg, h1, h2⟩ := ow.get ha hk e1.topV
  refine ⟨_, ea, _, o, rfl, hg, ?_⟩
  rw [h2]
  rw [Bool.false_xor] at hq
  exact k _ _ _ _ _ _ hq (e1.pop.pushV (.bl _))
theorem tDNotIn_of {K : PySem.W.Frag} {σ : L2.St} {H : Hp} {Q : VK} (h : tD K B (wDIn true j wb) σ H Q) : tDNotIn (tD K B wb) (tVar j) σ H Q := by
  obtain ⟨G, ρ, n, τ, Q', e, hw, k⟩ := h
  refine ⟨G, ρ, n, τ, _, e, hw, fun r ρ1 n1 v G1 H1 ⟨dk, t, m, kk, hr, hj, hk, hq⟩ e1 => ?_⟩
  subst hr
  obtain ⟨a, u, ea, g, ha, ow⟩ := e1.sl j _ hj
  obtain ⟨o, hg, h1, h2⟩ := ow.get ha hk e1.topV
  refine ⟨_, ea, _, o, rfl, hg, ?_⟩
  rw [h2]
  rw [Bool.true_xor] at hq
  exact k _ _ _ _ _ _ hq (e1.pop.pushV (.bl _))
theorem de_din (hu : X.A.units + 1 < cLine) (ho : PE X o (tVar j)) (hi : DE X B i wb) (hm : behindInMarks .In o = false := by rfl) : DE X B (.Compare i [.In] [o] pos) (wDIn false j wb) := PE.imp (pe_cmp (pc_din hu hi ho) hm) fun _ _ _ h => tDIn_of h
theorem de_dnin (hu : X.A.units + 1 < cLine) (ho : PE X o (tVar j)) (hi : DE X B i wb) (hm : behindInMarks .NotIn o = false := by rfl) : DE X B (.Compare i [.NotIn] [o] pos) (wDIn true j wb) := PE.imp (pe_cmp (pc_dnotin hu hi ho) hm) fun _ _ _ h => tDNotIn_of h
theorem dt_din (hu : X.A.units + 1 < cLine) (ho : PE X o (tVar j)) (hi : DE X B i wb) (hm : behindInMarks .In o = false := by rfl) : DT X B (.Compare i [.In] [o] pos) (wTst (wDIn false j wb)) := PT.imp (pt_cmp (pc_din hu hi ho) hm) fun _ _ _ h => tTest_of (fun _ _ _ h => tDIn_of h) h
theorem dt_dnin (hu : X.A.units + 1 < cLine) (ho : PE X o (tVar j)) (hi : DE X B i wb) (hm : behindInMarks .NotIn o = false := by rfl) : DT X B (.Compare i [.NotIn] [o] pos) (wTst (wDIn true j wb)) := PT.imp (pt_cmp (pc_dnotin hu hi ho) hm) fun _ _ _ h => tTest_of (fun _ _ _ h => tDNotIn_of h) h
/-- d[k] = v -/
def wDPut (j : Nat) (wk wv : TD) : TDS := fun E ρ n => wv ρ n fun r ρ1 n1 => (∃ s, ρ1[j]? = some s ∧ isOwnD s = true) ∧ wk ρ1 n1 fun rk ρ2 n2 => ∃ dk t m k, rk = .val dk ∧ ρ2[j]? = some (.ownD t m) ∧ dkey t dk = some k ∧ m.length < sizeLine ∧ E.nx (ρ2.set j (.ownD t (putD m k (dOf r)))) n2
theorem ds_dput {st : Stmt} {wk wv : TD} (h : PS X st (sDPut (tVar j) (tD X.K B wk) (tD X.K B wv))) : DS X B st (wDPut j wk wv) :=
  PS.imp h fun D σ H ⟨G, ρ, n, τ, D', e, hw, kx, _⟩ => ⟨G, ρ, n, τ, _, e, hw, fun r ρ1 n1 v G1 H1 ⟨⟨s, hs, hd⟩, h1⟩ e1 => by
    obtain ⟨t0, m0, rfl⟩ := isOwnD_iff hd
    obtain ⟨a0, u0, ea0, _⟩ := e1.sl j _ hs
    obtain ⟨G2, x2, e2⟩ := e1.freeze
    rw [frz_val] at e2
    refine ⟨_, ea0, G2, ρ1, n1, _, _, e2, h1, fun rk ρ2 n2 vk G3 H3 ⟨dk, t, m, kk, hr, hj, hk, hl, hq⟩ e3 => ?_⟩
    subst hr
    obtain ⟨a, u, ea, g, ha, ow⟩ := e3.sl j _ hj
    cases ea0.symm.trans ea
    have rv : Rep X.K G3 H3 v (dOf r) := e3.top2
    obtain ⟨u', hp, ow'⟩ := ow.put ha hk e3.topV rv hl
    obtain ⟨x4, e4⟩ := e3.mutD hj ea g ha ow ow'
    exact ⟨_, _, rfl, hp, kx _ _ _ _ _ hq e4.pop.pop⟩⟩
end
end Ly

namespace Ly
open PySem PySem.Spec PyProof.Rows L2
theorem svOf_newD {t : Bool} {m : List (List Key × D)} : svOf (.newD t m) = .ownD t m := rfl
theorem key_pair {a b : Int} : dkey true (.tup [.int a, .int b]) = some [.inl a, .inl b] := rfl
section
variable {X : Cx} {B : Bs} {a b c e k v : Expr} {es : List Expr} {pos : Pos} {wa wb wc wk wv : TD} {ws : TDA} {wt : TDT} {body : List Stmt} {ws' : TDS}
/-- a statement that is never come to -/
def wNever : TDS := fun _ _ _ => False
theorem ds_never {st : Stmt} : DS X B st wNever := ⟨fun _ _ _ _ _ _ ⟨_, _, _, _, _, _, hw, _⟩ => hw.elim⟩
/-! ### while -/
def wWhile (wc : TDT) (wb : TDS) : TDS := fun E ρ n => ∃ W : Nat → List SV → Nat → Prop, (∃ m, W m ρ n) ∧ ∀ m ρ n, W m ρ n →
  wc ρ n fun b ρ1 n1 => if b = true then wb { nx := fun ρ n => ∃ m', m' < m ∧ W m' ρ n, ct := fun ρ n => ∃ m', m' < m ∧ W m' ρ n, bk := E.nx, rt := E.rt } ρ1 n1 else E.nx ρ1 n1
theorem ds_while (hp : PassesOwn (model X.prog X.w) X.A X.env X.xe) (hc : DT X B c wt) (hb : DSs X B body ws') : DS X B (.While c body [] pos) (wWhile wt ws') :=
  PS.imp (ps_while hp hc hb) fun D σ H ⟨G, ρ, n, τ, D', e, ⟨W, ⟨m0, h0⟩, step⟩, nx, rt, bk, ct⟩ => by
    refine ⟨fun m σ H => ∃ G ρ n, EnvOk X.K B.1 B.2 G H σ ρ n τ ∧ W m ρ n, ⟨m0, G, ρ, n, e, h0⟩, ?_⟩
    rintro m σ1 H1 ⟨G1, ρ1, n1, e1, h1⟩
    refine ⟨G1, ρ1, n1, τ, _, e1, step m ρ1 n1 h1, fun b ρ2 n2 G2 H2 h2 e2 => ?_⟩
    cases b with
    | false => exact iteF (nx _ _ _ _ _ (by simpa using h2) e2)
    | true =>
      refine iteT ⟨fun σ' H' => ∃ m', m' < m ∧ ∃ G ρ n, EnvOk X.K B.1 B.2 G H' σ' ρ n τ ∧ W m' ρ n, fun σ' H' ⟨m', hm, q⟩ => ⟨m', hm, q⟩, G2, ρ2, n2, τ, _, e2, (if_pos rfl).mp h2, ?_, ?_, ?_, ?_⟩
      · rintro σ' ρ' n' G' H' ⟨m', hm, hw⟩ e'; exact ⟨m', hm, G', ρ', n', e', hw⟩
      · exact rt
      · exact fun σ' ρ' n' G' H' h e' => nx _ _ _ _ _ h e'
      · rintro σ' ρ' n' G' H' ⟨m', hm, hw⟩ e'; exact ⟨m', hm, G', ρ', n', e', hw⟩
/-! ### x op= e, of ints -/
def wAugI (i : Nat) (f : Int → Int → Int) (w : TD) : TDS := fun E ρ n => (∃ a, ρ[i]? = some (.val (.int a)) ∧ w ρ n fun r ρ1 n1 => ∃ b, r = .val (.int b) ∧ E.nx (ρ1.set i (.val (.int (f a b)))) n1)
theorem ds_augI {st : Stmt} {i : Nat} {f : Int → Int → Int} (h : PS X st (tAug i (tD X.K B wa) (ipI f))) : DS X B st (wAugI i f wa) :=
  PS.imp h fun D σ H ⟨G, ρ, n, τ, D', e, ⟨a, ha, hw⟩, nx, _⟩ => by
    obtain ⟨v, ev, rv⟩ := e.sl i _ ha
    cases rv
    refine ⟨_, ev, G, ρ, n, τ, _, e, hw, fun r ρ1 n1 v1 G1 H1 ⟨b, hr, hq⟩ e1 => ?_⟩
    subst hr
    have rb := e1.topV
    cases rb
    obtain ⟨G2, e2⟩ := (e1.pop.pushV (d := .int (f a b)) (.int _)).assign' (i := i)
    exact ⟨a, b, rfl, rfl, nx _ _ _ _ _ hq e2⟩
/-! ### {k: v}, k a tuple -/
def tDisp1T (tk tv : TE) : TE := fun σ H Q => ∀ p, H p = none → tk σ (upd H p (.dT [])) fun x H1 => tv σ H1 fun y H2 => H2 p = some (.dT []) ∧ ∃ b ks, x = .ref b ∧ H2 b = some (.tup (ks.map kV)) ∧ Q (.ref p) (upd H2 p (.dT [(ks, y)]))
theorem pe_disp1T {tk tv : TE} (hu : X.A.units + 2 < cLine) (hk : PE X k tk) (hv : PE X v tv) : PE X (.Dict [some k] [v] pos) (tDisp1T tk tv) := by
  refine ⟨fun pins s σ H Q I q => ?_⟩
  have hn := I.hok.fresh (Nat.le_refl s.heap.objs.size)
  have I1 := I.laid (a := s.heap.objs.size) (o := .dT []) (h' := s.heap.push { cls := .type "dict", data := .dict #[] }) (t' := s.toks) (fun _ _ q => Heap.get?_push_of_some _ q) (Nat.le_refl _) (dt_empty s.heap I.big)
  have hlen : (pairTrees [some k] [v] X.env pos).length = 1 := rfl
  have sz1 : 1 ≤ sizeLine := by decide
  rw [arm_eval_Dict, zip_pairTrees [some k] [v] X.env pos rfl rfl, dictDisplay_pairs (pairTrees [some k] [v] X.env pos) (by intro z; cases z) (by rw [hlen]; decide)]
  refine wpAny_bind (wpAny_standAt (wpAny_bind (wpAny_subDictH (knd := tupleKind (mixKind X.prog X.w)) (Q := fun d s' => wpAny (model X.prog X.w) X.A (pure (Value.ref d)) _ X.xe s') ?_ (by rw [hlen]; decide) ?_)))
  · show X.A.units < cLine; omega
  · refine pairTrees_cons_walk (thn (hk.run pins _ σ _ _ I1 (q _ hn)) fun u s1 ⟨x, H1, I2, rx, q1⟩ => thn (hv.run pins s1 σ H1 _ I2 q1) fun u2 s2 ⟨y, H2, I3, ry, he, b, ks, ex, hb, q2⟩ => pairTrees_nil_walk ?_)
    subst ex
    cases rx
    obtain ⟨z, hd, xs, rel, dd⟩ := dt_of I3.hok he
    cases rel
    refine ⟨[(ks, b, u2)], ⟨rfl, rfl, key_of I3.hok hb, trivial⟩, dd, fun h' tk dd' hs => wpAny_pure ⟨.ref s.heap.objs.size, _, ?_, rfl, q2⟩⟩
    obtain ⟨q, es, ep, hq, h2, h3, h4, _, h5⟩ := dd'
    refine d_write I3 (by rw [he]; exact True.intro) hs ⟨q, hq⟩ ⟨sz1, hd, [(ks, b, u2)], .cons ⟨rfl, ?_, ry⟩ .nil, q, es, ep, hq, h2, h3, h4, h5⟩
    rw [upd_ne (ne_of hb he (fun z => nomatch z))]
    exact hb
theorem EnvOk.growD {K : PySem.W.Frag} {G G0 : Gh} {H H0 : Hp} {σ : L2.St} {ρ : List SV} {n : Nat} {τ : List (V × RV)} {t : Bool} {a : Addr} {u u' : HO} {m m' : List (List Key × D)} (e : EnvOk K G0 H0 G H σ ρ n (τ ++ [(.ref a, .newD t m)])) (ha : H a = some u)
    (ow' : OwnD K G H t u' m') : EnvOk K G0 H0 G (upd H a u') σ ρ n (τ ++ [(.ref a, .newD t m')]) := by
  obtain ⟨a', u0, ea, g, ha', ow⟩ := e.top
  cases ea
  rw [ha] at ha'
  cases ha'
  have h0 := e.notIn (.inr ⟨_, g⟩)
  have nt := ow.notT
  have x : Ext G H G (upd H a u') := by
    refine ⟨fun c q => ⟨q, fun w z => ?_⟩, fun c xs q => ?_, fun c ob w q => ?_, fun _ _ q => q⟩
    · rw [upd_ne (fun y => by subst y; rw [q] at g; cases g)]; exact z
    · rw [upd_ne (fun y => by subst y; rw [q] at ha; cases ha; exact nt.1 _ rfl)]; exact q
    · rw [upd_ne (fun y => by subst y; rw [q] at ha; cases ha; exact nt.2 _ _ rfl)]; exact q
  refine EnvOk.push ⟨⟨fun c w q h1 h2 => ?_, e.gr.bagd, e.gr.bagl, fun c xs q => x.tup c xs (e.gr.tup c xs q), fun c ob w q => x.frz c ob w (e.gr.frz c ob w q)⟩, e.ns, e.nt, fun c b q => ?_, fun c q => ?_, e.ln, fun i s hs => (e.sl i s hs).mono x fun c vs g' q => ⟨g', ?_⟩, fun i v' r' h => ?_⟩ ⟨a, _, rfl, g, upd_same, ow'.mono x⟩
  · have hc : c ≠ a := fun z => by subst z; rw [h0] at q; cases q
    rw [upd_ne hc]; exact e.gr.keep c w q h1 h2
  · obtain ⟨gb, far, s, t, hc, hb, z⟩ := e.bg c b q
    exact ⟨gb, far, s, t, by rw [upd_ne (fun y => by subst y; rw [q] at g; cases g)]; exact hc, by rw [upd_ne (fun y => by subst y; rw [gb] at g; cases g)]; exact hb, z⟩
  · by_cases hc : c = a
    · subst hc; rw [upd_same] at q; cases q
    · rw [upd_ne hc] at q; exact e.fh c q
  · rw [upd_ne (fun y => by subst y; rw [g] at g'; cases g')]; exact q
  · have hm : i < τ.length := (List.getElem?_eq_some_iff.mp h).1
    refine (e.pop.tm i v' r' h).mono x fun c vs g' q => ⟨g', ?_⟩
    rw [upd_ne (fun y => by subst y; rw [g] at g'; cases g'; omega)]; exact q
def wDOne (wk wv : TD) : TD := fun ρ n Q => wk ρ n fun rk ρ1 n1 => wv ρ1 n1 fun rv ρ2 n2 => ∃ dk k, rk = .val dk ∧ dkey true dk = some k ∧ Q (.newD true [(k, dOf rv)]) ρ2 n2
theorem de_disp1T (hu : X.A.units + 2 < cLine) (hk : DE X B k wk) (hv : DE X B v wv) : DE X B (.Dict [some k] [v] pos) (wDOne wk wv) :=
  PE.imp (pe_disp1T hu hk hv) fun σ H Q ⟨G, ρ, n, τ, Q', e, hw, kk⟩ p hp => by
    have e0 : EnvOk X.K B.1 B.2 (updG G p (.tmp τ.length)) (upd H p (.dT [])) σ ρ n (τ ++ [(.ref p, .newD true [])]) :=
      (e.alloc hp (.dT []) (.tmp τ.length) (by simp)).push ⟨p, _, rfl, updG_same, upd_same, [], rfl, .nil⟩
    refine ⟨_, ρ, n, _, _, e0, hw, fun rk ρ1 n1 x G1 H1 h1 e1 => ⟨G1, ρ1, n1, _, _, e1, h1, fun rv ρ2 n2 y G2 H2 ⟨dk, ks, hr, hks, hq⟩ e2 => ?_⟩⟩
    subst hr
    obtain ⟨G3, x3, e3⟩ := e2.freeze
    rw [frz_val] at e3
    obtain ⟨a0, u0, ea, g, ha, vs, eu, rm⟩ := e3.pop.pop.top
    cases ea
    cases rm
    have rx : Rep X.K G3 H2 x dk := e3.top2
    cases dk with
    | tup ds =>
      cases rx with
      | tup q rl =>
        have ek := keys_rep rl hks
        rw [ek] at q
        subst eu
        refine ⟨ha, _, ks, rfl, q, kk _ _ _ _ _ _ hq (e3.pop.pop.growD ha ⟨_, rfl, .cons e3.topV .nil⟩)⟩
    | _ => cases hks
end
end Ly

namespace Ly
open PySem PySem.Spec PyProof.Rows L2
/-! ### how the weakest conditions are evaluated -/
def isiB (d : D) (m : String) : Option Bool := (tyName d).bind fun T => kitB T m
section
variable {R : RV → Prop} {Q : KE} {r s : RV} {ρ : List SV} {n : Nat} {d : D} {m : String} {i j : Int} {ne : Bool} {l : List D} {x y : Str}
theorem wgNil_iff {Q : List SV → Nat → Prop} : wgNil [] ρ n Q ↔ Q ρ n := by unfold wgNil; simp
theorem wgCons_iff {wg : TDG} {wgs : TDGs} {rs : List RV} {Q : List SV → Nat → Prop} : wgCons wg wgs (r :: rs) ρ n Q ↔ wg r ρ n fun ρ1 n1 => wgs rs ρ1 n1 Q := by
  unfold wgCons
  constructor
  · rintro ⟨r', rs', e, h⟩; cases e; exact h
  · intro h; exact ⟨r, rs, rfl, h⟩
theorem wgTup_iff {k : Nat} {wgs : TDGs} {Q : List SV → Nat → Prop} : wgTup k wgs (.val (.tup l)) ρ n Q ↔ l.length = k ∧ wgs (l.map .val) ρ n Q := by
  unfold wgTup
  constructor
  · rintro ⟨ds, e, h⟩; cases e; exact h
  · intro h; exact ⟨l, rfl, h⟩
theorem gIsi_iff : gIsi [r, .val (.ty m)] R ↔ ∃ b, isiB (dOf r) m = some b ∧ R (.val (.bl b)) := by
  unfold gIsi isiB
  constructor
  · rintro ⟨r', m', T, b, e, h1, h2, h3⟩
    cases e
    exact ⟨b, by rw [h1]; exact h2, h3⟩
  · rintro ⟨b, h, h3⟩
    cases q : tyName (dOf r) with
    | none => rw [q] at h; cases h
    | some T => rw [q] at h; exact ⟨r, m, T, b, rfl, q, h, h3⟩
theorem gLen_iff : gLen [r] R ↔ ∃ l, seqOf r = some l ∧ R (.val (.int l.length)) := by
  unfold gLen
  constructor
  · rintro ⟨r', e, l, h⟩; cases e; exact ⟨l, h⟩
  · rintro ⟨l, h⟩; exact ⟨r, rfl, l, h⟩
theorem gTuple_iff : gTuple [r] R ↔ ∃ l, seqOf r = some l ∧ R (.val (.tup l)) := by
  unfold gTuple
  constructor
  · rintro ⟨r', l, e, h⟩; cases e; exact ⟨l, h⟩
  · rintro ⟨l, h⟩; exact ⟨r, l, rfl, h⟩
theorem gList_iff : gList [r] R ↔ ∃ l, seqOf r = some l ∧ R (.new l) := by
  unfold gList
  constructor
  · rintro ⟨r', l, e, h⟩; cases e; exact ⟨l, h⟩
  · rintro ⟨l, h⟩; exact ⟨r, l, rfl, h⟩
theorem gAll_iff : gAll [r] R ↔ ∃ bs : List Bool, listOf r = some (bs.map D.bl) ∧ R (.val (.bl (bs.all id))) := by
  unfold gAll
  constructor
  · rintro ⟨r', l, bs, e, h1, h2, h3⟩; cases e; subst h2; exact ⟨bs, h1, h3⟩
  · rintro ⟨bs, h1, h3⟩; exact ⟨r, _, bs, rfl, h1, rfl, h3⟩
theorem gI_iff {C : Int → Int → Prop} {f : Int → Int → D} : gI C f (.val (.int i)) (.val (.int j)) R ↔ C i j ∧ R (.val (f i j)) := by
  unfold gI
  constructor
  · rintro ⟨i', j', e1, e2, h⟩; cases e1; cases e2; exact h
  · intro h; exact ⟨i, j, rfl, rfl, h⟩
theorem gAbs_iff : gAbs [.val (.int i)] R ↔ R (.val (.int (if i < 0 then -i else i))) := by
  unfold gAbs
  constructor
  · rintro ⟨i', e1, h⟩; cases e1; exact h
  · intro h; exact ⟨i, rfl, h⟩
theorem gMM_iff {f : Int → Int → Int} : gMM f [.val (.int i), .val (.int j)] R ↔ R (.val (.int (f i j))) := by
  unfold gMM
  constructor
  · rintro ⟨i', j', e1, h⟩; cases e1; exact h
  · intro h; exact ⟨i, j, rfl, h⟩
theorem gInt_iff : gInt [.val (.int i)] R ↔ R (.val (.int i)) := by
  unfold gInt
  constructor
  · rintro ⟨r, e, h⟩
    cases e
    rcases h with ⟨i', e, h⟩ | ⟨b, e, h⟩
    · cases e; exact h
    · cases e
  · intro h; exact ⟨_, rfl, .inl ⟨i, rfl, h⟩⟩
theorem gEq_int : gEq ne (.val (.int i)) (.val (.int j)) R ↔ R (.val (.bl (xor ne (decide (i = j))))) := Iff.rfl
theorem gEq_str : gEq ne (.val (.str x)) (.val (.str y)) R ↔ R (.val (.bl (xor ne (decide (x = y))))) := Iff.rfl
theorem gEq_emp : gEq ne r (.new []) R ↔ ∃ l, listOf r = some l ∧ R (.val (.bl (xor ne l.isEmpty))) := by
  unfold gEq
  split
  · rename_i h; cases h
  · rename_i h; cases h
  · exact Iff.rfl
  · rename_i h _ _; exact False.elim (h rfl)
theorem gAdd_int : gAdd (.val (.int i)) (.val (.int j)) R ↔ R (.val (.int (i + j))) := Iff.rfl
theorem gAdd_tup {a b : List D} : gAdd (.val (.tup a)) (.val (.tup b)) R ↔ a.length + b.length ≤ sizeLine ∧ R (.val (.tup (a ++ b))) := Iff.rfl
theorem gAdd_lst {a b : List D} : gAdd (.val (.lst a)) (.val (.lst b)) R ↔ a.length + b.length ≤ sizeLine ∧ R (.new (a ++ b)) := Iff.rfl
theorem gAdd_lstN {a b : List D} : gAdd (.val (.lst a)) (.new b) R ↔ a.length + b.length ≤ sizeLine ∧ R (.new (a ++ b)) := Iff.rfl
theorem gAdd_Nlst {a b : List D} : gAdd (.new a) (.val (.lst b)) R ↔ a.length + b.length ≤ sizeLine ∧ R (.new (a ++ b)) := Iff.rfl
theorem gAdd_new {a b : List D} : gAdd (.new a) (.new b) R ↔ a.length + b.length ≤ sizeLine ∧ R (.new (a ++ b)) := Iff.rfl
theorem gMul_int : gMul (.val (.int i)) (.val (.int j)) R ↔ CMul i j ∧ R (.val (.int (i * j))) := Iff.rfl
theorem gMul_tup : gMul (.val (.tup l)) (.val (.int i)) R ↔ l ≠ [] ∧ -1000 ≤ i ∧ i ≤ 1000 ∧ l.length ≤ 1000 ∧ R (.val (.tup (List.replicate i.toNat l).flatten)) := Iff.rfl
theorem gIsN_iff : gIsN ne r (.val .non) R ↔ R (.val (.bl (xor ne (isNon r)))) := by
  unfold gIsN; simp
theorem gSl_tup {lo hi : Option Int} : gSl lo hi (.val (.tup l)) R ↔ R (.val (.tup (cutD l lo hi))) := Iff.rfl
theorem gSl_lst {lo hi : Option Int} : gSl lo hi (.val (.lst l)) R ↔ R (.new (cutD l lo hi)) := by
  unfold gSl; simp [listOf]
theorem gSl_new {lo hi : Option Int} : gSl lo hi (.new l) R ↔ R (.new (cutD l lo hi)) := by
  unfold gSl; simp [listOf]
end
theorem at0 {α : Type} {a : α} {l : List α} : atI (a :: l) 0 = some a := atI_nat (j := 0) rfl
theorem at1 {α : Type} {a b : α} {l : List α} : atI (a :: b :: l) 1 = some b := atI_nat (j := 1) rfl
theorem sqL {l : List D} : seqOf (.val (.lst l)) = some l := rfl
theorem sqT {l : List D} : seqOf (.val (.tup l)) = some l := rfl
theorem sqN {l : List D} : seqOf (.new l) = some l := rfl
theorem ssL {l : List D} : seqS (.val (.lst l)) = some l := rfl
theorem ssT {l : List D} : seqS (.val (.tup l)) = some l := rfl
theorem ssO {l : List D} : seqS (.own l) = some l := rfl
theorem dOf_val {d : D} : dOf (.val d) = d := rfl
theorem dOf_new {l : List D} : dOf (.new l) = .lst l := rfl
theorem svOf_val {d : D} : svOf (.val d) = .val d := rfl
theorem svOf_new {l : List D} : svOf (.new l) = .own l := rfl
theorem kI (d : D) : isiB d "int" = (match d with | .int _ => some true | .bl _ => some true | .non => some false | .str _ => some false | .tup _ => some false | .lst _ => some false | .dct => some false | .dc0 => some false | _ => none) := by
  cases d <;> first | rfl | (show kitB _ _ = _; decide +kernel)
theorem kB (d : D) : isiB d "bool" = (match d with | .int _ => some false | .bl _ => some true | .non => some false | .str _ => some false | .tup _ => some false | .lst _ => some false | .dct => some false | .dc0 => some false | _ => none) := by
  cases d <;> first | rfl | (show kitB _ _ = _; decide +kernel)
theorem kT (d : D) : isiB d "tuple" = (match d with | .int _ => some false | .bl _ => some false | .non => some false | .str _ => some false | .tup _ => some true | .lst _ => some false | .dct => some false | .dc0 => some false | _ => none) := by
  cases d <;> first | rfl | (show kitB _ _ = _; decide +kernel)
theorem kS (d : D) : isiB d "str" = (match d with | .int _ => some false | .bl _ => some false | .non => some false | .str _ => some true | .tup _ => some false | .lst _ => some false | .dct => some false | .dc0 => some false | _ => none) := by
  cases d <;> first | rfl | (show kitB _ _ = _; decide +kernel)
/-! ### cuts, sizes -/
theorem cut_to {l : List D} {p : Nat} : cutD l none (some (p : Int)) = l.take p := by
  unfold cutD
  rw [HT.sIx_nat, HT.sIx_none, List.drop_zero, Nat.sub_zero]
  by_cases h : p ≤ l.length
  · rw [Nat.min_eq_left h]
  · rw [Nat.min_eq_right (by omega), List.take_length, List.take_of_length_le (by omega)]
theorem cut_from {l : List D} {p : Nat} : cutD l (some (p : Int)) none = l.drop p := by
  unfold cutD
  rw [HT.sIx_nat, HT.sIx_none]
  by_cases h : p ≤ l.length
  · rw [Nat.min_eq_left h, List.take_of_length_le (by rw [List.length_drop]; exact Nat.le_refl _)]
  · rw [Nat.min_eq_right (by omega), List.drop_length, List.drop_eq_nil_of_le (by omega)]
    simp
theorem sz {n : Nat} (h : n ≤ 10000) : n ≤ sizeLine := Nat.le_trans h (by decide)
theorem szl {n : Nat} (h : n ≤ 10000) : n < sizeLine := Nat.lt_of_le_of_lt h (by decide)
/-! ### loops by what stays true -/
theorem comp_inv {wg : TDG} {wt : TDT} {we : TD} {vs : List Nat} {ds : List D} {Q : List D → List SV → Nat → Prop} {ρ : List SV} {n : Nat} (J : Nat → List D → List SV → Nat → Prop)
    (step : ∀ i d acc ρ n, ds[i]? = some d → J i acc ρ n → ∀ K : List D → List SV → Nat → Prop, (∀ acc' ρ' n', J (i + 1) acc' ρ' n' → K acc' ρ' n') →
      wg (.val d) ρ n fun ρ1 n1 => wt ρ1 n1 fun b ρ2 n2 => if b = true then we ρ2 n2 fun r ρ3 n3 => acc.length < sizeLine ∧ K (acc ++ [dOf r]) (wipeD ρ3 vs) n3 else K acc (wipeD ρ2 vs) n2)
    (h0 : J 0 [] ρ n) (fin : ∀ acc ρ n, J ds.length acc ρ n → Q acc ρ n) : compD wg wt we vs ds [] Q ρ n := by
  have main : ∀ (k : Nat) (i : Nat) (acc : List D) (ρ : List SV) (n : Nat), ds.length - i = k → i ≤ ds.length → J i acc ρ n → compD wg wt we vs (ds.drop i) acc Q ρ n := by
    intro k
    induction k with
    | zero =>
      intro i acc ρ n hk hi h
      have : i = ds.length := by omega
      subst this
      rw [List.drop_length]
      exact fin acc ρ n h
    | succ k ih =>
      intro i acc ρ n hk hi h
      have hlt : i < ds.length := by omega
      rw [List.drop_eq_getElem_cons hlt]
      exact step i _ acc ρ n (List.getElem?_eq_getElem hlt) h (fun acc' ρ' n' => compD wg wt we vs (ds.drop (i + 1)) acc' Q ρ' n') fun acc' ρ' n' h' => ih (i + 1) acc' ρ' n' (by omega) hlt h'
  have := main ds.length 0 [] ρ n (by omega) (Nat.zero_le _) h0
  rwa [List.drop_zero] at this
theorem loop_inv {wg : TDG} {wb : TDS} {ds : List D} {E : DEnds} {ρ : List SV} {n : Nat} (J : Nat → List SV → Nat → Prop)
    (step : ∀ i d ρ n, ds[i]? = some d → J i ρ n → ∀ NX : List SV → Nat → Prop, (∀ ρ' n', J (i + 1) ρ' n' → NX ρ' n') → wg (.val d) ρ n fun ρ1 n1 => wb { nx := NX, rt := E.rt, bk := E.nx, ct := NX } ρ1 n1)
    (h0 : J 0 ρ n) (fin : ∀ ρ n, J ds.length ρ n → E.nx ρ n) : loopD wg wb ds E ρ n := by
  have main : ∀ (k : Nat) (i : Nat) (ρ : List SV) (n : Nat), ds.length - i = k → i ≤ ds.length → J i ρ n → loopD wg wb (ds.drop i) E ρ n := by
    intro k
    induction k with
    | zero =>
      intro i ρ n hk hi h
      have : i = ds.length := by omega
      subst this
      rw [List.drop_length]
      exact fin ρ n h
    | succ k ih =>
      intro i ρ n hk hi h
      have hlt : i < ds.length := by omega
      rw [List.drop_eq_getElem_cons hlt]
      exact step i _ ρ n (List.getElem?_eq_getElem hlt) h (fun ρ' n' => loopD wg wb (ds.drop (i + 1)) E ρ' n') fun ρ' n' h' => ih (i + 1) ρ' n' (by omega) hlt h'
  have := main ds.length 0 ρ n (by omega) (Nat.zero_le _) h0
  rwa [List.drop_zero] at this
theorem rgD_get {lo : Int} {m i : Nat} {d : D} (h : (rgD lo m)[i]? = some d) : i < m ∧ d = .int (lo + (i : Nat)) := by
  unfold rgD at h
  rw [List.getElem?_map] at h
  by_cases hi : i < m
  · rw [List.getElem?_range hi] at h; cases h; exact ⟨hi, rfl⟩
  · rw [List.getElem?_eq_none (by rw [List.length_range]; omega)] at h; cases h
theorem rgD_len {lo : Int} {m : Nat} : (rgD lo m).length = m := by unfold rgD; rw [List.length_map, List.length_range]
theorem comp_map {wg : TDG} {we : TD} {vs : List Nat} {ds : List D} {Q : List D → List SV → Nat → Prop} {ρ0 : List SV} {n : Nat} (P : Nat → D → Prop) (c : Nat)
    (step : ∀ i d n', ds[i]? = some d → n ≤ n' → n' ≤ n + c * i → ∀ K : KE, (∀ r ρ' n'', P i (dOf r) → wipeD ρ' vs = ρ0 → n' ≤ n'' → n'' ≤ n' + c → K r ρ' n'') → wg (.val d) ρ0 n' fun ρ1 n1 => we ρ1 n1 K)
    (hl : ds.length ≤ 10000) (fin : ∀ l n', l.length = ds.length → (∀ i d, l[i]? = some d → P i d) → n ≤ n' → n' ≤ n + c * ds.length → Q l ρ0 n') : compD wg wYes we vs ds [] Q ρ0 n := by
  refine comp_inv (fun i acc ρ n' => ρ = ρ0 ∧ i ≤ ds.length ∧ n ≤ n' ∧ n' ≤ n + c * i ∧ acc.length = i ∧ ∀ j d, acc[j]? = some d → P j d) ?_ ⟨rfl, Nat.zero_le _, Nat.le_refl _, Nat.le_refl _, rfl, by simp⟩ ?_
  · rintro i d acc ρ n' hd ⟨rfl, hi, b1, b2, hr1, hr2⟩ K hK
    have hil : i < ds.length := (List.getElem?_eq_some_iff.mp hd).1
    have := step i d n' hd b1 b2 (fun r ρ3 n3 => acc.length < sizeLine ∧ K (acc ++ [dOf r]) (wipeD ρ3 vs) n3) (fun r ρ' n'' hP hw c1 c2 => ⟨szl (by omega), hK _ _ _ ⟨hw, hil, by omega, ?_, by simp [hr1], fun j d hj => ?_⟩⟩)
    · simpa [wYes] using this
    · rw [Nat.mul_add, Nat.mul_one]; omega
    · by_cases hj' : j < acc.length
      · rw [List.getElem?_append_left hj'] at hj; exact hr2 j d hj
      · rw [List.getElem?_append_right (by omega)] at hj
        cases hk : j - acc.length with
        | zero =>
          rw [hk] at hj
          simp at hj
          have : j = i := by omega
          subst this
          rw [← hj]; exact hP
        | succ k => rw [hk] at hj; simp at hj
  · rintro acc ρ n' ⟨rfl, hi, b1, b2, hr1, hr2⟩
    exact fin acc n' hr1 hr2 b1 b2
/-- items that are all of one kind -/
theorem all_ints {l : List D} {P : Int → Prop} (h : ∀ (i : Nat) d, l[i]? = some d → ∃ k, d = .int k ∧ P k) : ∃ r : List Int, l = r.map .int ∧ ∀ x ∈ r, P x := by
  induction l with
  | nil => exact ⟨[], rfl, by simp⟩
  | cons d l ih =>
    obtain ⟨r, e, hr⟩ := ih fun i d' hd => h (i + 1) d' (by simpa using hd)
    obtain ⟨k, e', hk⟩ := h 0 d rfl
    refine ⟨k :: r, by rw [List.map_cons, ← e, e'], fun x hx => ?_⟩
    rcases List.mem_cons.mp hx with hx | hx
    · rw [hx]; exact hk
    · exact hr x hx
theorem all_map {α : Type} {f : α → D} {l : List D} {P : α → Prop} (h : ∀ (i : Nat) d, l[i]? = some d → ∃ k, d = f k ∧ P k) : ∃ r : List α, l = r.map f ∧ ∀ x ∈ r, P x := by
  induction l with
  | nil => exact ⟨[], rfl, by simp⟩
  | cons d l ih =>
    obtain ⟨r, e, hr⟩ := ih fun i d' hd => h (i + 1) d' (by simpa using hd)
    obtain ⟨k, e', hk⟩ := h 0 d rfl
    refine ⟨k :: r, by rw [List.map_cons, ← e, e'], fun x hx => ?_⟩
    rcases List.mem_cons.mp hx with hx | hx
    · rw [hx]; exact hk
    · exact hr x hx
end Ly

namespace Ly
open PySem PySem.Spec PyProof.Rows L2
/-! ### a def that is called where nothing is being shown -/
structure FnG (P : Program) (w : World) (K : PySem.W.Frag) (mg : Str → Option Value) (base : Heap) (k : Nat) (f : Addr) (fd : FuncData) (ps : List Str) (sp : Sp) : Prop where
  go : ∀ (a : Around) (out : List Env) (s : Shared) (H : Hp) (ar : Args) (us : List Value) (vs : List V) (Q : VK) (E : XK), a.guards = some [] → Room k a → Env0 P w K mg base a out s H → BindsTo s fd ar (ps.zip us) → Vals vs us → sp vs H Q E →
    codeAny (model P w) a (.call (.ref f) ar) (CR CX0 out P w H s Q E) s
theorem guards_deeper {a : Around} {env : Env} (h : a.guards = some []) : (a.deeper env).guards = some [] := by
  first | exact h | (show Option.map _ _ = _; rw [h]; rfl) | simp [Around.deeper, h]
theorem okG {P : Program} {w : World} {K : PySem.W.Frag} {mg : Str → Option Value} {base : Heap} {x qual : Str} {st : Stmt} {f : Addr} {fd : FuncData} {N ps : List Str} {k : Nat} {sp : Sp} (F : Fun K x qual st f fd) (S : FnScope N ps (defScope st))
    (ln : ∀ vs H Q E, sp vs H Q E → vs.length = ps.length)
    (hb : ∀ (cd : Value) (a : Around) (out : List Env) (s : Shared) (H : Hp) (vs : List V) (Q : VK) (E : XK), (a.deeper (envOfC qual (defScope st) s.heap.objs.size f cd)).guards = some [] → Room k (a.deeper (envOfC qual (defScope st) s.heap.objs.size f cd)) → sp vs H Q E →
      ∃ t, PSs (cxOf CX0 P w K mg base N qual (defScope st) f cd a out s H E).nox (defBody st) t ∧ t { nx := fun _ G => Q .non G, rt := Q } (start N vs) H) : FnG P w K mg base (k + 1) f fd ps sp := by
  obtain ⟨oc, od, kV, dc, pm, an, cd, ct, osl, rfl, lk, hcd⟩ := F.ex
  refine ⟨fun a out s H ar us vs Q E ga hr e0 hbd rv hsp => ?_⟩
  have hl := ln vs H Q E hsp
  have kin : K.In s.heap := e0.mod.kin.keeps fun c o e => (e0.bs c o e).1
  have lim : Heap.NoLimit s.heap := e0.mod.nolimit.keeps fun c o e => (e0.bs c o e).1
  have kinds : ∀ y ∈ ps.zip us, (defScope st).names.lookup y.1 = some .local ∨ ((defScope st).names.lookup y.1 = some .cell ∧ ((cellsFrom (s.heap.objs.size + 1) (defScope st).names []).lookup y.1).isSome = true) := by
    rintro ⟨m, v⟩ hy
    rcases S.par m (List.of_mem_zip hy).1 with z | z
    · exact Or.inl z
    · exact Or.inr ⟨z, PySem.W.cellsFrom_some _ _ _ (.inl z)⟩
  refine codeAny_call_function hr.depth (kin _ _ lk) rfl S.co S.gen rfl (PySem.W.codeRec_of kin hcd) (hbd _ _ _ _ ?_)
  refine wpAny_newFunctionEnv_cells S.kind kinds fun env he s1 x1 => ?_
  cases he
  refine ⟨lim.keeps x1.toInCall.keep, codeAny_func ?_⟩
  obtain ⟨t, ht, hq⟩ := hb cd a out s H vs Q E (guards_deeper ga) (hr.deeper _) hsp
  have i0 : Inv (cxOf CX0 P w K mg base N qual (defScope st) f cd a out s H E) [] (start N vs) H s1 := inv_start S hr.hd e0 hl rv x1
  refine wpAny_mono (ht.nox.run [] s1 (start N vs) H _ i0 hq) (fun fl s2 z => ?_) fun _ _ z => z
  rcases fl with _ | _ | _ | u
  all_goals first
    | (obtain ⟨_, _, _, q⟩ := z; exact q.elim)
    | (obtain ⟨v, σ2, H2, J, r2, q⟩ := z; exact ⟨v, H2, J.os, J.bare, J.base, J.hok, r2, q⟩)
    | (obtain ⟨σ2, H2, J, q⟩ := z; exact ⟨V.non, H2, J.os, J.bare, J.base, J.hok, rfl, q⟩)
/-- a def over data -/
theorem def_okG {P : Program} {w : World} {K : PySem.W.Frag} {mg : Str → Option Value} {base : Heap} {x qual : Str} {st : Stmt} {f : Addr} {fd : FuncData} {N ps : List Str} {k m : Nat} {c : Ctr} {wb : TDS} (F : Fun K x qual st f fd) (S : FnScope N ps (defScope st)) (hm : ps.length = m)
    (hbody : ∀ (cdv : Value) (A : Around) (outer : List Env) (s : Shared) (H : Hp) (E : XK) (B : Bs), (A.deeper (envOfC qual (defScope st) s.heap.objs.size f cdv)).guards = some [] → Room k (A.deeper (envOfC qual (defScope st) s.heap.objs.size f cdv)) → DSs (cxOf CX0 P w K mg base N qual (defScope st) f cdv A outer s H E).nox B (defBody st) wb)
    (hc : ∀ ds n Q, ds.length = m → c ds n Q → wb { nx := fun _ n' => Q .non n', rt := Q } (startD N ds) n) : FnG P w K mg base (k + 1) f fd ps (spC K m c) := by
  refine okG F S (fun vs H Q E ⟨G, ds, n, Q', g, hl, rl, hc, hq⟩ => by rw [rl.length, hl, hm]) (fun cdv A outer s H vs Q E hg hr ⟨G, ds, n, Q', g, hl, rl, h1, hq⟩ => ?_)
  exact ⟨_, hbody cdv A outer s H E (G, H) hg hr, G, startD N ds, n, [], _, envOk_start g rl, hc ds n Q' hl h1, fun σ' ρ' n' G' H' h2 e2 => hq .non n' .non G' H' h2 e2.gr e2.bg e2.fh .non,
    fun d n' v G' H' σ' ρ' h2 r2 e2 => hq d n' v G' H' h2 e2.gr e2.bg e2.fh r2, fun _ _ _ _ _ z => z.elim, fun _ _ _ _ _ z => z.elim⟩
end Ly

namespace Ly
open PySem PySem.Spec PyProof.Rows L2
/-! ### the law's own call, from a promise that holds where nothing is being shown -/
theorem callG {P : Program} {w : World} {K : PySem.W.Frag} {mg mb : Str → Option Value} {k : Nat} {fa a : Addr} {fd : FuncData} {x : Str} {sp : Sp} {s₀ : Shared} {vs : List Value} {ns : List Int}
    (kin : K.In s₀.heap) (hm : s₀.heap.Ns mainGlobals mg) (hb : s₀.heap.Ns builtinsNs mb) (boot : ∀ y : Str, y ≠ "__name__" → mb y = bootBuiltins y) (lim : s₀.heap.NoLimit) (gens : s₀.gens = #[])
    (ha : s₀.heap.get? a = some { cls := .type "list", data := .seq vs.toArray }) (hi : IntsAre vs ns) (hl : ns.length ≤ sizeLine) (hr : Room k callerA)
    (F : ∀ base : Heap, K.In base → base.Ns mainGlobals mg → FnG P w K mg base k fa fd [x] sp) (bind : Binds K fd [x] [])
    (hsp : ∀ H : Hp, Only H → SqL K H a (ns.map V.int) → sp [.ref a] H (fun v _ => v = .bl true) fun _ _ _ => False) :
    codeAny (model P w) callerA (.call (.ref fa) ⟨[.ref a], []⟩) (fun r s' => r = .ok (.ret (.bool true)) ∧ OldK s₀.heap s'.heap ∧ s'.os = s₀.os ∧ AllBare s'.gens) s₀ := by
  have ri := vals_ints hi
  have run : ∀ H : Hp, Only H → SqL K H a (ns.map V.int) → HOk P w H s₀.heap → (∀ c, H c ≠ none → c = a) → (H a ≠ none → K.lookup a = none) →
      codeAny (model P w) callerA (.call (.ref fa) ⟨[.ref a], []⟩) (fun r s' => r = .ok (.ret (.bool true)) ∧ OldK s₀.heap s'.heap ∧ s'.os = s₀.os ∧ AllBare s'.gens) s₀ := by
    intro H only sq ok own out
    have free : ∀ {c : Addr} {o : Obj}, s₀.heap.get? c = some o → (c = a → False) → (hidT s₀.heap H).get? c = some o := fun {c o} e z => hidT_get e (Classical.byContradiction fun q => z (own c q))
    have dic : ∀ {c : Addr} {o : Obj} {es : Array DictEntry} {ep : Nat}, s₀.heap.get? c = some o → o.data = .dict es ep → c = a → False := fun e d z => by
      subst z
      cases ha.symm.trans e
      exact Data.noConfusion d
    have nsH : ∀ {c : Addr} {m : Str → Option Value}, s₀.heap.Ns c m → (hidT s₀.heap H).Ns c m := fun {c m} ⟨o, es, ep, e, d, r⟩ => ⟨o, es, ep, free e (dic e d), d, r⟩
    have kinH : K.In (hidT s₀.heap H) := fun c o e => by
      by_cases z : H c = none
      · exact hidT_get (kin c o e) z
      · have z2 := own c z
        subst z2
        cases (out z).symm.trans e
    have md : Mod K mg (hidT s₀.heap H) := ⟨kinH, nsH hm, ⟨mb, nsH hb, boot⟩, by obtain ⟨mc, l1, l2⟩ := lim; exact ⟨mc, nsH l1, l2⟩⟩
    have env : Env0 P w K mg (hidT s₀.heap H) callerA [] s₀ H := ⟨rfl, md, fun c o e => of_hidT e, Nat.le_of_eq (hidT_size _ _), trivial, fun c hc => (by cases (hc : c ∈ ([] : List Addr))), ok, .of_eq gens⟩
    refine codeAny_mono ((F _ kinH (nsH hm)).go callerA [] s₀ H ⟨[.ref a], []⟩ [.ref a] [.ref a] _ _ rfl hr env (bind s₀ [.ref a] kin rfl) (.cons rfl .nil) (hsp H only sq)) fun r s2 z => ?_
    rcases r with e | fl
    · exact (show False from z).elim
    rcases fl with _ | _ | _ | u
    · exact (show False from z).elim
    · exact (show False from z).elim
    · exact (show False from z).elim
    obtain ⟨v, H2, os, bare, un, ok2, r2, q⟩ := z
    obtain rfl : v = V.bl true := q
    cases (r2 : u = Value.bool true)
    refine ⟨rfl, OldK.of_keep fun c o e => ?_, os, bare⟩
    rcases only c with z | ⟨ob, xs, z⟩
    · exact un.keep c o e z (fun y => (by cases (y : c ∈ ([] : List Addr)))) (by simp)
    · have t1 := (ok c _ z).1
      rw [e] at t1
      cases t1
      exact (ok2 c _ (un.frzs c _ _ z)).1
  by_cases hk : ∃ o, K.lookup a = some o
  · obtain ⟨o, hk⟩ := hk
    cases ha.symm.trans (kin a o hk)
    refine run (fun _ => none) (fun _ => Or.inl rfl) (Or.inr ⟨_, vs.toArray, _, hk, rfl, rfl, rfl, by rw [List.size_toArray, hi.length]; exact hl, by simpa using ri⟩) (fun c u z => ?_) (fun c z => absurd rfl z) fun z => absurd rfl z
    cases (z : (none : Option HO) = some u)
  · have hk0 : K.lookup a = none := by
      cases q : K.lookup a with
      | none => rfl
      | some o => exact absurd ⟨o, q⟩ hk
    let H0 : Hp := fun c => if c = a then some (.frz { cls := .type "list", data := .seq vs.toArray } (.lst (ns.map V.int))) else none
    have at_a : H0 a = some (.frz { cls := .type "list", data := .seq vs.toArray } (.lst (ns.map V.int))) := if_pos rfl
    have off_a : ∀ c, c ≠ a → H0 c = none := fun c h => if_neg h
    refine run H0 (fun c => ?_) (Or.inl (Or.inr ⟨_, at_a⟩)) (fun c u z => ?_) (fun c z => Classical.byContradiction fun h => z (off_a c h)) fun _ => hk0
    · by_cases h : c = a
      · exact Or.inr ⟨_, _, by rw [h]; exact at_a⟩
      · exact Or.inl (off_a c h)
    · by_cases h : c = a
      · subst h
        cases at_a.symm.trans z
        exact ⟨ha, by rw [List.length_map]; exact hl, vs, _, ri, ha⟩
      · cases (off_a c h).symm.trans z
theorem walkG {l : PySem.W.OpenLaw} {n k : Nat} {q : Program} {loose : List Str} {XP : (Str → Option Value) → Heap → Prop} {YP : World → Heap → Prop} {d : DefRec} {K : Params → PySem.W.Frag} {sp : World → Sp} {x : Str}
    (hn : l.most = some n) (hn2 : n ≤ sizeLine) (hdf : d.params.defaults = []) (hr : Room k callerA) (hY : ∀ (w : World) (h : Heap), YP w h → (K w.params).In h)
    (F : ∀ (w : World) (mg : Str → Option Value) (fa : Addr) (h : Heap), (K w.params).In h → h.Ns mainGlobals mg → mg d.name = some (.ref fa) →
      ∃ fd : FuncData, Binds (K w.params) fd [x] [] ∧ ∀ base : Heap, (K w.params).In base → base.Ns mainGlobals mg → FnG l.prog w (K w.params) mg base k fa fd [x] (sp w))
    (hsp : ∀ (w : World) (H : Hp) (a : Addr) (ns : List Int), ns.length ≤ n → Only H → SqL (K w.params) H a (ns.map V.int) → sp w [.ref a] H (fun v _ => v = .bl true) fun _ _ _ => False) :
    PySem.W.WalkO q loose XP YP l.row.toRowW d [] (fun f vs => PySem.call f vs) := by
  refine Att.attach_call hn hdf fun w s0 s1 mg mb fa o pm cd doc a vs ns G Y ho hd hcd hmg hobj hints hlen hg => ?_
  have kin := hY w _ Y
  obtain ⟨fd, hb, hF⟩ := F w mg fa _ kin G.T.g hmg
  exact callG kin G.T.g G.T.b G.T.builtins G.T.nolimit hg hobj hints (Nat.le_trans hlen hn2) hr hF hb fun H only sq => hsp w H a ns hlen only sq
/-- what stands at the start of a law -/
theorem spLaw {K : PySem.W.Frag} {H : Hp} {a : Addr} {ns : List Int} {c : Ctr} (hc : ∀ Q : D → Nat → Prop, (∀ n', Q (.bl true) n') → c [.scr ns] 0 Q) (hO : Only H) (hS : SqL K H a (ns.map V.int)) :
    spC K 1 c [.ref a] H (fun v _ => v = .bl true) fun _ _ _ => False := by
  have hp : ScrP K H a ns := by
    rcases hS with (h | h) | h
    · rcases hO a with z | ⟨o, xs, z⟩
      · rw [h] at z; cases z
      · rw [h] at z; cases z
    · exact .inl h
    · exact .inr h
  refine ⟨fun _ => .free, [.scr ns], 0, fun d _ => d = .bl true, ⟨fun _ _ z => (by cases z), fun _ _ z => (by cases z), fun _ _ z => (by cases z), fun _ _ => rfl⟩, rfl, .cons (.scr hp) .nil, hc _ fun _ => rfl, ?_⟩
  rintro d n' v G' H' rfl _ _ _ r
  cases r
  rfl
/-- a def that the top has bound -/
structure HD (K : PySem.W.Frag) (mg : Str → Option Value) (x : Str) (st : Stmt) (ps : List Str) : Type where
  f : Addr
  fd : FuncData
  F : Fun K x x st f fd
  b : Binds K fd ps []
  g : mg x = some (.ref f)
def headOf {K : PySem.W.Frag} {h : Heap} {mg : Str → Option Value} {x : Str} {st : Stmt} {ps : List Str} {f : Addr} {od an : Option Addr} {osl : Array (Option Value)} {oc kV dc pm cd ct : Value}
    (hb : ∀ (kV dc pm : Value) (an : Option Addr) (cd ct : Value) (us : List Value), us.length = ps.length → bindArgs (PySem.W.fnOf x x (defArgs st) (defBody st) (defScope st) .none kV dc pm an cd ct) ⟨us, []⟩ = pure (ps.zip us))
    (kin : K.In h) (G : h.Ns mainGlobals mg) (at_ : PySem.W.nsIn K mainGlobals x = some (some (.ref f)))
    (lk : K.lookup f = some ⟨oc, od, .func (PySem.W.fnOf x x (defArgs st) (defBody st) (defScope st) .none kV dc pm an cd ct), osl⟩) (cod : PySem.W.codeIn K cd x = true) (kp : PySem.W.keepIn K (.ref f) = true) : HD K mg x st ps :=
  ⟨f, _, fun_mk lk cod kp, (fun_mk lk cod kp).binds hb, PySem.W.mg_of kin G at_⟩
end Ly

namespace Ly
open PySem PySem.Spec PyProof.Rows L2
/-! ### own error classes whose __init__ calls their base's, which has none of its own -/
structure BaseC (K : PySem.W.Frag) (C : Addr) : Prop where
  rd : PySem.W.readsIn K C (.type "type") = true
  sp : PySem.W.specialIn K (.ref C) "__getattribute__" = some (some (.builtin "type.__getattribute__"))
  fi : PySem.W.findCls K (.ref C) (.type "type") "__init__" = some (.val (.builtin "ValueError.__init__"))
structure ErrC (K : PySem.W.Frag) (C fI : Addr) : Prop where
  o : OexC K C
  iC : PySem.W.findIn K (.ref C) "__init__" = some (some (.ref fI))
  tI : PySem.W.typeIn K (.ref fI) = some (.type "function")
section
variable {X : Cx} {e : Expr} {es : List Expr} {ta : TA} {nm : Str} {CK : Addr} {p1 p2 pos p : Pos}
/-- Base.__init__(self, ..) -/
theorem pe_ceinit {pl : Sem Bool} (T : BaseC X.K CK) (hg : Gl X nm) (hm : X.mg nm = some (.ref CK)) (ha : PA X (e :: es) ta) (hdb : (nm == ("__debug__" : Str)) = false := by decide)
    (hc : eval (.Call (.Attribute (.Name nm p1) "__init__" p2) (e :: es) [] pos) X.env = (do
      let ov ← eval (.Name nm p1) X.env
      standAt p2.atName
      let (f, first) ← holding [ov] (getMethod ov "__init__" pl)
      callWith pos f first (backTo pos (starEach (e :: es) X.env)) (backToKw pos (keywordEach [] X.env))) := by rfl)
    (he : starEach (e :: es) X.env = (false, eval e X.env) :: starEach es X.env := by rfl) (hpl : (backTo pos (starEach es X.env)).any (·.1) = false := by rfl) :
    PE X (.Call (.Attribute (.Name nm p1) "__init__" p2) (e :: es) [] pos) (tVeI X.K ta) := by
  refine ⟨fun pins s σ H Q I h => ?_⟩
  refine PySem.W.methodCall_KW (ld_glob I hg hm ?_ hdb) hc
  refine PySem.W.method_cls I.kIn T.sp (PySem.W.cls_value I.kIn T.rd T.fi (by decide +kernel) ?_)
  show wpAny _ _ (callWith pos (Value.builtin "ValueError.__init__") [] (backTo pos (starEach (e :: es) X.env)) []) _ _ _
  refine PyProof.Rows.callWith_method1 (thn (ha.run pos pins _ σ H _ (I.tok _) h) fun us s1 ⟨vs, H1, I1, r1, a, C, ws, ev, hl, T, ea, q⟩ => ?_) he hpl
  subst ev
  cases r1 with
  | @cons _ u0 _ ur ra rw' =>
    obtain rfl : u0 = Value.ref a := ra
    have hlen : ur.length ≤ sizeLine := by
      rw [← Paired.length rw', sizeLine_eq]
      omega
    exact oinit_ok T I1 ea hlen fun s' J => ⟨.non, H1, J, rfl, q⟩
/-- what such an __init__ without fields keeps -/
def spI0 (K : PySem.W.Frag) : Sp := fun vs H Q _ => ∃ a C, vs = [.ref a] ∧ OexC K C ∧ H a = some (exo a C none) ∧ Q .non H
/-- the end of C(): the exception is let go -/
theorem mk_endN {pins : List (Addr × Obj)} {σ : L2.St} {H1 : Hp} {Q : XK} {hp hp2 h2 : Heap} {g1 g2 : Array GenState} {d1 d2 : Drawn} {t1 t2 : Nat} {os1 os2 : OsState} {a C : Addr} (T : Raises X (.ref C)) (I1 : Inv X pins σ H1 ⟨hp, g1, d1, t1, os1⟩)
    (ha : hp.objs.size ≤ a) (k : ∀ b o, hp.get? b = some o → hp2.get? b = some o) (un : Un (frs X.stack) [] (upd H1 a (exo a C none)) (upd H1 a (exo a C none)) hp2 h2) (hok : HOk X.prog X.w (upd H1 a (exo a C none)) h2) (ho : os2 = os1) (hb : AllBare g2)
    (q : Q (.ref C) none H1) : MkP X pins σ Q (.ref a) ⟨h2, g2, d2, t2, os2⟩ := by
  have ea : (upd H1 a (exo a C none)) a = some (exo a C none) := upd_same
  obtain ⟨t0, hoe⟩ := exo_at hok ea
  have hn : H1 a = none := I1.hok.fresh ha
  obtain ⟨G, g1', g2'⟩ := restrict h2 fun b => decide (b ≠ a)
  have gk : ∀ b, b ≠ a → G.get? b = h2.get? b := fun b hb => g1' b (decide_eq_true hb)
  have ge : G.get? a = none := g2' a (by simp)
  have nha : ∀ {b : Addr} {o : Obj}, hp.get? b = some o → b ≠ a := fun {b o} z => Nat.ne_of_lt (Nat.lt_of_lt_of_le (Heap.lt_size z) ha)
  have up : ∀ {b : Addr}, b ≠ a → H1 b = none → upd H1 a (exo a C none) b = none := fun {b} hb n => by rw [upd_ne hb]; exact n
  have U : Un (frs X.stack) [] H1 H1 hp G := {
    keep := fun b o z n hf hx => by
      rw [gk b (nha z)]
      exact un.keep b o (k b o z) (up (nha z) n) hf hx
    slot := fun b o z n hf hx => by
      rw [gk b (nha z)]
      exact un.slot b o (k b o z) (up (nha z) n) hf hx
    free := fun b o z n hx => n
    there := fun b o z hx => by
      rw [gk b (nha z)]
      exact un.there b o (k b o z) hx
    tups := fun b xs z => z
    frzs := fun b o v z => z
    tbls := fun b ps z => ⟨#[], by rw [z]; simp⟩ }
  have hok3 : HOk X.prog X.w H1 G := fun b o z => by
    have hba : b ≠ a := fun e => by
      rw [e, hn] at z
      cases z
    have noa : ∀ {c : Addr}, H1 c = some (.own b) → c ≠ a := fun {c} hc e => by rw [e, hn] at hc; cases hc
    refine (hok b o (by rw [upd_ne hba]; exact z)).stay (fun c v hc y => ?_) (fun c hc => ?_) (fun c xs hc => ?_)
    · have hca : c ≠ a := by
        rcases hc with hc | hc
        · rw [hc]
          exact hba
        · exact at_ne ea hc exo_own
      rw [gk c hca]
      exact y
    · rw [upd_ne (at_ne ea hc exo_own)] at hc; exact hc
    · rw [upd_ne (at_ne ea hc exo_tup)] at hc; exact hc
  have J : Inv X pins σ H1 ⟨G, g2, d2, t2, os2⟩ := I1.call' (ch := []) ho U hok3 hb (fun b z => absurd z (by simp))
  refine ⟨a, _, _, ⟨G, g2, d2, t2, os2⟩, H1, .ref C, none, rfl, J, fun b o z => ?_, ge, hoe, ⟨rfl, rfl⟩, rfl, rfl, hn, rfl, hb, T, q⟩
  by_cases hba : b = a
  · rw [hba, ge] at z
    cases z
  · exact (gk b hba).symm.trans z
/-- C() -/
theorem pmk_oex0 {CX : CXT} {x : Str} {C fI : Addr} {k : Nat} {fd : FuncData} (T : ErrC X.K C fI) (F1 : FnOk X.prog X.w X.K X.mg X.base CX k fI fd ["self"] (spI0 X.K)) (hr : Room (k + 1) X.A) (hb : Binds X.K fd ["self"] []) (hx : Passes CX X (fun _ _ _ => False)) (hg : Gl X x) (hm : X.mg x = some (.ref C))
    (hdb : (x == ("__debug__" : Str)) = false := by decide) :
    PMk X (.Call (.Name x p) [] [] pos) (fun _ H Q => Q (.ref C) none H) := by
  intro pins s σ H1 Q I1 h
  obtain ⟨nm, q, N, bs, bm, sn, sub, ab, col, dd, k0, k1, k2, k3, k5, hC, hbm⟩ := T.o.cls
  refine wpAny_Call_Name_kw (ld_glob I1 hg hm ?_ hdb)
  refine PySem.W.callWith_K0 I1.kIn T.o.kC ?_
  show wpAny _ _ (call (.ref C) []) _ _ _
  obtain ⟨hp, g, dr, tk, os⟩ := s
  have hsz : hp.objs.size ≤ hp.objs.size + 1 := Nat.le_succ _
  have hn : H1 (hp.objs.size + 1) = none := I1.hok.fresh hsz
  have kk : ∀ b o, hp.get? b = some o → ((hp.push (PySem.W.kdv_tup [])).push (PySem.HandSPX.excO C hp.objs.size)).get? b = some o := fun b o e => Heap.get?_push_of_some _ (Heap.get?_push_of_some _ e)
  have hget : ((hp.push (PySem.W.kdv_tup [])).push (PySem.HandSPX.excO C hp.objs.size)).get? (hp.objs.size + 1) = some (PySem.HandSPX.excO C hp.objs.size) := by heap_get
  have I2 : Inv X pins σ (upd H1 (hp.objs.size + 1) (exo (hp.objs.size + 1) C none)) ⟨(hp.push (PySem.W.kdv_tup [])).push (PySem.HandSPX.excO C hp.objs.size), g, dr, tk, os⟩ :=
    I1.laid (t' := tk) (a := hp.objs.size + 1) (o := exo (hp.objs.size + 1) C none) (h' := (hp.push (PySem.W.kdv_tup [])).push (PySem.HandSPX.excO C hp.objs.size)) kk hsz (exo_ok hget)
  have r2 : Vals [V.ref (hp.objs.size + 1)] [Value.ref (hp.objs.size + 1)] := .cons rfl .nil
  have hq : spI0 X.K [.ref (hp.objs.size + 1)] (upd H1 (hp.objs.size + 1) (exo (hp.objs.size + 1) C none)) (fun v H2 => v = .non ∧ H2 = upd H1 (hp.objs.size + 1) (exo (hp.objs.size + 1) C none)) (fun _ _ _ => False) := ⟨_, C, rfl, T.o, upd_same, rfl, rfl⟩
  refine wpAny_call (PySem.HandSPX.call_own F.excBase_ValueError (fun Y => PySem.HandSPX.refsVE_contains Y bm hbm) (I1.kIn _ _ hC) (PySem.W.looks_findIn I1.kIn T.iC) (fun self => PySem.W.bind_fn I1.kIn self T.tI) (by simp)
    (codeAny_mono (F1.run _ X.stack _ _ ⟨[Value.ref (hp.objs.size + 1)], []⟩ [Value.ref (hp.objs.size + 1)] _ _ (fun _ _ _ => False) (hr.make C [] []) (I2.env0.make C [] []) (hb _ [Value.ref (hp.objs.size + 1)] I2.kIn rfl) r2 hq) fun r s' hq' => ?_))
  cases r with
  | error er => exact hx pins σ _ _ er s' I2 hq'
  | ok fl =>
    cases fl with
    | ret u =>
      obtain ⟨v, H2, os2, bare2, un2, hok2, rv, ev, eH⟩ := hq'
      subst ev
      subst eH
      obtain ⟨h2, g2, d2, t2, os'⟩ := s'
      exact ⟨rv, mk_endN (raises_own T.o.exC T.o.tyC) I1 hsz kk un2 hok2 os2 bare2 h⟩
    | next => exact False.elim hq'
    | brk => exact False.elim hq'
    | cont => exact False.elim hq'
end

/-! ### errors over data: a class by its name, its fields -/
abbrev XD := Str × List (Str × D)
def XdOk (K : PySem.W.Frag) (mg : Str → Option Value) (G : Gh) (H : Hp) (xd : XD) (cls : Value) (dd : Option Addr) : Prop := mg xd.1 = some cls ∧ (xd.2 = [] → dd = none) ∧
  (xd.2 ≠ [] → ∃ d vs, dd = some d ∧ G d = .fro ∧ H d = some (.xd vs) ∧ vs.map (·.1) = xd.2.map (·.1) ∧ RepL K G H (vs.map (·.2)) (xd.2.map (·.2)))
abbrev WDt := XD → List SV → Nat → Prop
def tWX (K : PySem.W.Frag) (mg : Str → Option Value) (B : Bs) (W : WDt) : WX := fun cls dd σ H => ∃ xd ρ n G τ, W xd ρ n ∧ EnvOk K B.1 B.2 G H σ ρ n τ ∧ XdOk K mg G H xd cls dd
abbrev CtrX := List D → Nat → (D → Nat → Prop) → (XD → Nat → Prop) → Prop
def spX (K : PySem.W.Frag) (mg : Str → Option Value) (m : Nat) (c : CtrX) : Sp := fun vs H Q E => ∃ G ds n Q' E', G0Ok G H n ∧ ds.length = m ∧ RepL K G H vs ds ∧ c ds n Q' E' ∧
  (∀ d n' v G' H', Q' d n' → Gr G H G' H' → (∀ a b, G' a = .bagd b → BagOk G' H' n' a b) → (∀ a, H' a = none → G' a = .free) → Rep K G' H' v d → Q v H') ∧
  (∀ xd n' cls dd G' H', E' xd n' → Gr G H G' H' → (∀ a b, G' a = .bagd b → BagOk G' H' n' a b) → (∀ a, H' a = none → G' a = .free) → XdOk K mg G' H' xd cls dd → E cls dd H')
/-- THE RULE for a def that may raise -/
theorem def_okX {P : Program} {w : World} {K : PySem.W.Frag} {mg : Str → Option Value} {base : Heap} {x qual : Str} {st : Stmt} {f : Addr} {fd : FuncData} {N ps : List Str} {k m : Nat} {c : CtrX} {wb : WDt → TDS} (F : Fun K x qual st f fd) (S : FnScope N ps (defScope st)) (hm : ps.length = m)
    (hbody : ∀ (cdv : Value) (A : Around) (outer : List Env) (s : Shared) (H : Hp) (E : XK) (B : Bs) (W : WDt), Room k (A.deeper (envOfC qual (defScope st) s.heap.objs.size f cdv)) → Takes (cxOf (L2.CX P w) P w K mg base N qual (defScope st) f cdv A outer s H E) (tWX K mg B W) →
      DSs (cxOf (L2.CX P w) P w K mg base N qual (defScope st) f cdv A outer s H E) B (defBody st) (wb W))
    (hc : ∀ ds n Q E, ds.length = m → c ds n Q E → wb (fun xd _ n' => E xd n') { nx := fun _ n' => Q .non n', rt := Q } (startD N ds) n) : FnOk P w K mg base (L2.CX P w) (k + 1) f fd ps (spX K mg m c) := by
  refine F.okX S (fun vs H Q E ⟨G, ds, n, Q', E', g, hl, rl, hc, hq, _⟩ => by rw [rl.length, hl, hm]) (fun cdv A outer s H vs Q E hr ⟨G, ds, n, Q', E', g, hl, rl, h1, hq, hx⟩ => ?_)
  have tk : Takes (cxOf (L2.CX P w) P w K mg base N qual (defScope st) f cdv A outer s H E) (fun cls d _ H' => E cls d H') := takes_of rfl rfl rfl rfl
  have tk2 : Takes (cxOf (L2.CX P w) P w K mg base N qual (defScope st) f cdv A outer s H E) (tWX K mg (G, H) (fun xd _ n' => E' xd n')) := tk.imp fun cls dd σ H' ⟨xd, ρ, n, G', τ, hw, e, hd⟩ => hx xd n cls dd G' H' hw e.gr e.bg e.fh hd
  exact ⟨_, hbody cdv A outer s H E (G, H) _ hr tk2, G, startD N ds, n, [], _, envOk_start g rl, hc ds n Q' E' hl h1, fun σ' ρ' n' G' H' h2 e2 => hq .non n' .non G' H' h2 e2.gr e2.bg e2.fh .non,
    fun d n' v G' H' σ' ρ' h2 r2 e2 => hq d n' v G' H' h2 e2.gr e2.bg e2.fh r2, fun _ _ _ _ _ z => z.elim, fun _ _ _ _ _ z => z.elim⟩
section
variable {X : Cx} {B : Bs} {e c : Expr} {es : List Expr} {ws : TDA} {pos p np pos' : Pos} {W : WDt} {nm x : Str} {C : Addr} {st : Stmt} {sts body suite : List Stmt} {b₀ : Stmt}
/-- a call that may raise -/
def wCallX (W : WDt) (m : Nat) (c : CtrX) (ws : TDA) : TD := fun ρ n Q => ws ρ n fun rs ρ1 n1 => rs.length = m ∧ c (rs.map dOf) n1 (fun d n2 => Q (.val d) ρ1 n2) fun xd n2 => W xd ρ1 n2
theorem de_callX {m : Nat} {c : CtrX} (h : PE X e (tCallS (spX X.K X.mg m c) (WE (tWX X.K X.mg B W)) (tDA X.K B ws))) : DE X B e (wCallX W m c ws) :=
  PE.imp h fun σ H Q ⟨G, ρ, n, τ, Q', e, hw, k⟩ => ⟨G, ρ, n, τ, _, e, hw, fun rs ρ1 n1 vs G1 H1 ⟨hm, h1⟩ hl e1 => by
    obtain ⟨G2, x2, e2, rl⟩ := EnvOk.freezeAll rs vs τ G1 hl e1
    obtain ⟨g0, x3⟩ := e2.out
    refine ⟨outG G2, rs.map dOf, n1, _, _, g0, by rw [List.length_map]; exact hm, rl.mono x3, h1, fun d n2 v G' H' h2 gr bg fh rv => ?_, fun xd n2 cls dd G' H' h2 gr bg fh hd => ?_⟩
    · obtain ⟨e3, x4⟩ := e2.back gr bg fh
      exact k _ _ _ _ _ _ h2 (e3.pushV (rv.mono x4))
    · obtain ⟨e3, x4⟩ := e2.back gr bg fh
      obtain ⟨h3, h4, h5⟩ := hd
      refine ⟨xd, ρ1, n2, _, _, h2, e3, h3, h4, fun hne => ?_⟩
      obtain ⟨d, vs', e1, g1, e2, e3, e4⟩ := h5 hne
      exact ⟨d, vs', e1, (x4.fro _ g1).1, (x4.fro _ g1).2 _ e2, e3, e4.mono x4⟩⟩
/-- raise C() -/
def wRaise (W : WDt) (xd : XD) : TDS := fun _ ρ n => W xd ρ n
theorem ds_raise0 (hc : X.calm = true) (tk : Takes X (tWX X.K X.mg B W)) (he : PMk X e (fun _ H Q => Q (.ref C) none H)) (hm : X.mg nm = some (.ref C)) : DS X B (.Raise (some e) none pos) (wRaise W (nm, [])) :=
  PS.imp (ps_raise hc tk he) fun D σ H ⟨G, ρ, n, τ, D', e, hw, _⟩ => ⟨(nm, []), ρ, n, G, τ, hw, e, hm, fun _ => rfl, fun h => absurd rfl h⟩

/-! ### statements where nothing else is held -/
def tDS0 (K : PySem.W.Frag) (B : Bs) (w : TDS) : TS := fun D σ H => ∃ G ρ n D', EnvOk K B.1 B.2 G H σ ρ n [] ∧ w D' ρ n ∧
  (∀ σ' ρ' n' G' H', D'.nx ρ' n' → EnvOk K B.1 B.2 G' H' σ' ρ' n' [] → D.nx σ' H') ∧
  (∀ d n' v G' H' σ' ρ', D'.rt d n' → Rep K G' H' v d → EnvOk K B.1 B.2 G' H' σ' ρ' n' [] → D.rt v H') ∧
  (∀ σ' ρ' n' G' H', D'.bk ρ' n' → EnvOk K B.1 B.2 G' H' σ' ρ' n' [] → D.bk σ' H') ∧
  (∀ σ' ρ' n' G' H', D'.ct ρ' n' → EnvOk K B.1 B.2 G' H' σ' ρ' n' [] → D.ct σ' H')
abbrev DS0 (X : Cx) (B : Bs) (st : Stmt) (w : TDS) : Prop := PS X st (tDS0 X.K B w)
abbrev DSs0 (X : Cx) (B : Bs) (st : List Stmt) (w : TDS) : Prop := PSs X st (tDS0 X.K B w)
theorem ds0 {w : TDS} (h : DS X B st w) : DS0 X B st w := PS.imp h fun D σ H ⟨G, ρ, n, D', e, hw, k⟩ => ⟨G, ρ, n, [], D', e, hw, k⟩
theorem dss0 {w : TDS} (h : DSs X B sts w) : DSs0 X B sts w := PSs.imp h fun D σ H ⟨G, ρ, n, D', e, hw, k⟩ => ⟨G, ρ, n, [], D', e, hw, k⟩
theorem dss0_cons {w1 w2 : TDS} (h1 : DS0 X B st w1) (h2 : DSs0 X B sts w2) : DSs0 X B (st :: sts) (wSeq w1 w2) :=
  PSs.imp (pss_cons h1 h2) fun D σ H ⟨G, ρ, n, D', e, hw, k1, k2, k3, k4⟩ =>
    ⟨G, ρ, n, { D' with nx := fun ρ1 n1 => w2 D' ρ1 n1 }, e, hw, fun σ' ρ' n' G' H' h e' => ⟨G', ρ', n', D', e', h, k1, k2, k3, k4⟩, k2, k3, k4⟩
/-- try: body except C: suite; hs tells of a class by its name whether the clause takes it -/
def wTry (hs : Str → Option Bool) (Wout : WDt) (wb : WDt → TDS) (ws : TDS) : TDS := fun D ρ n => wb (fun xd ρ' n' => ∃ b, hs xd.1 = some b ∧ (b = true → ws D ρ' n') ∧ (b = false → Wout xd ρ' n')) D ρ n
theorem ds_try {c : Value} {hs : Str → Option Bool} {Wout : WDt} {wb : WDt → TDS} {ws : TDS} (hst : X.stack = X.env :: X.outer) (hf : X.env.frame = some X.env.locals) (hc : Names X x c) (tk : Takes X (tWX X.K X.mg B Wout))
    (hh : ∀ nm b cls, hs nm = some b → X.mg nm = some cls → PySem.W.exmOne X.K cls c = some b)
    (hb : ∀ (W : WDt) (pn : List (Addr × Obj)) (xe : Value → Shared → Prop), Takes (X.tr pn xe) (tWX X.K X.mg B W) → PassesOwn (model X.prog X.w) X.A X.env xe → DSs (X.tr pn xe) B body (wb W))
    (hsu : ∀ (a : Addr) (oe : Obj) (pn : List (Addr × Obj)), DSs (X.suite a ((a, oe) :: pn)) B (b₀ :: suite) ws) :
    DS0 X B (.Try body [.ExceptHandler (some (.Name x np)) none (b₀ :: suite) pos'] [] [] pos) (wTry hs Wout wb ws) := by
  refine PS.imp (ps_try_only (tb := fun W D σ H => ∃ Wd : WDt, (∀ cls dd σ H, tWX X.K X.mg B Wd cls dd σ H → W cls dd σ H) ∧ tDS X.K B (wb Wd) D σ H) (ts := fun _ _ _ => tDS X.K B ws) hst hf hc tk (fun W pn xe tk' po => ?_) (fun a oe cls d pn _ _ => hsu a oe pn)) fun D σ H h => ?_
  · refine ⟨fun pins s σ H D I h => ?_⟩
    obtain ⟨Wd, hi, h⟩ := h
    exact (hb Wd pn xe (tk'.imp hi) po).run pins s σ H D I h
  · obtain ⟨G, ρ, n, D', e, hw, k1, k2, k3, k4⟩ := h
    refine ⟨_, fun cls dd σ1 H1 h1 => ?_, G, ρ, n, [], D', e, hw, k1, k2, k3, k4⟩
    obtain ⟨xd, ρ1, n1, G1, τ1, ⟨b, hb1, hy, hn⟩, e1, hd⟩ := h1
    refine ⟨b, hh _ _ _ hb1 hd.1, fun hb2 a ha => ?_, fun hb2 => ?_⟩
    · exact ⟨G1, ρ1, n1, [], D', EnvOk.pop (τ := []) e1, hy hb2, k1, k2, k3, k4⟩
    · exact ⟨xd, ρ1, n1, G1, τ1, hn hb2, e1, hd⟩
end
/-- a def whose body holds tries -/
theorem def_ok0 {P : Program} {w : World} {K : PySem.W.Frag} {mg : Str → Option Value} {base : Heap} {x qual : Str} {st : Stmt} {f : Addr} {fd : FuncData} {N ps : List Str} {k m : Nat} {c : Ctr} {wb : TDS} (F : Fun K x qual st f fd) (S : FnScope N ps (defScope st)) (hm : ps.length = m)
    (hbody : ∀ (cdv : Value) (A : Around) (outer : List Env) (s : Shared) (H : Hp) (E : XK) (B : Bs), Room k (A.deeper (envOfC qual (defScope st) s.heap.objs.size f cdv)) → DSs0 (cxOf CX0 P w K mg base N qual (defScope st) f cdv A outer s H E).nox B (defBody st) wb)
    (hc : ∀ ds n Q, ds.length = m → c ds n Q → wb { nx := fun _ n' => Q .non n', rt := Q } (startD N ds) n) : FnOk P w K mg base CX0 (k + 1) f fd ps (spC K m c) := by
  refine F.ok S (fun vs H Q E ⟨G, ds, n, Q', g, hl, rl, hc, hq⟩ => by rw [rl.length, hl, hm]) (fun cdv A outer s H vs Q E hr ⟨G, ds, n, Q', g, hl, rl, h1, hq⟩ => ?_)
  exact ⟨_, hbody cdv A outer s H E (G, H) hr, G, startD N ds, n, _, envOk_start g rl, hc ds n Q' hl h1, fun σ' ρ' n' G' H' h2 e2 => hq .non n' .non G' H' h2 e2.gr e2.bg e2.fh .non,
    fun d n' v G' H' σ' ρ' h2 r2 e2 => hq d n' v G' H' h2 e2.gr e2.bg e2.fh r2, fun _ _ _ _ _ z => z.elim, fun _ _ _ _ _ z => z.elim⟩
section
variable {X : Cx} {B : Bs} {st : Stmt} {sts : List Stmt} {K : PySem.W.Frag} {mg : Str → Option Value}
theorem dss0_one {w : TDS} (h : DS0 X B st w) : DSs0 X B [st] w := pss_one h
theorem takesF : Takes X (tWX K mg B (fun _ _ _ => False)) := takes0.imp fun _ _ _ _ ⟨_, _, _, _, _, h, _⟩ => h
theorem passX0 {P : Program} {w : World} : Passes (L2.CX P w) X (fun _ _ _ => False) := fun _ _ _ _ _ _ _ h => by
  obtain ⟨_, _, _, _, _, _, _, _, _, _, _, _, z⟩ := h
  exact z.elim
/-- where nothing is raised -/
def noX (c : CtrX) : Ctr := fun ds n Q => c ds n Q fun _ _ => False
theorem fn_noX {P : Program} {w : World} {base : Heap} {CX : CXT} {k m : Nat} {f : Addr} {fd : FuncData} {ps : List Str} {c : CtrX} (F : FnOk P w K mg base CX k f fd ps (spX K mg m c)) : FnOk P w K mg base CX k f fd ps (spC K m (noX c)) :=
  F.imp fun vs H Q E ⟨G, ds, n, Q', g, hl, rl, hc, hq⟩ => ⟨G, ds, n, Q', _, g, hl, rl, hc, hq, fun _ _ _ _ _ _ z => z.elim⟩
theorem hs_nil {c : Value} : ∀ (nm : Str) (b : Bool) (cls : Value), (none : Option Bool) = some b → mg nm = some cls → PySem.W.exmOne K cls c = some b := fun _ _ _ h => by cases h
theorem hs_cons {c : Value} {nm0 : Str} {cls0 : Value} {b0 : Bool} {r : Str → Option Bool} (g : mg nm0 = some cls0) (x : PySem.W.exmOne K cls0 c = some b0) (h : ∀ (nm : Str) (b : Bool) (cls : Value), r nm = some b → mg nm = some cls → PySem.W.exmOne K cls c = some b) :
    ∀ (nm : Str) (b : Bool) (cls : Value), (if nm = nm0 then some b0 else r nm) = some b → mg nm = some cls → PySem.W.exmOne K cls c = some b := fun nm b cls h1 h2 => by
  by_cases e : nm = nm0
  · subst e
    rw [if_pos rfl] at h1
    cases h1
    rw [g] at h2
    cases h2
    exact x
  · rw [if_neg e] at h1
    exact h nm b cls h1 h2
end
/-! ### classes that the top has bound -/
def clsBody : Stmt → List Stmt
  | .ClassDef (body := b) .. => b
  | _ => []
structure HErr (K : PySem.W.Frag) (mg : Str → Option Value) (x qual : Str) (st : Stmt) (ps : List Str) : Type where
  C : Addr
  f : Addr
  fd : FuncData
  E : ErrC K C f
  F : Fun K "__init__" qual st f fd
  b : Binds K fd ps []
  g : mg x = some (.ref C)
  h : PySem.W.hasDictIn K C = true
def errOf {K : PySem.W.Frag} {h : Heap} {mg : Str → Option Value} {x qual : Str} {st : Stmt} {ps : List Str} {C f : Addr} {od an : Option Addr} {osl : Array (Option Value)} {oc kV dc pm cd ct : Value}
    {nm q : Str} {N : Addr} {bs bm : List Value} {sn : List Str} {sub : List Value} {ab : Bool} {col : Option Bool} {dd : Option Addr} {m0 m1 m2 m3 m5 : Option Value}
    (hb : ∀ (kV dc pm : Value) (an : Option Addr) (cd ct : Value) (us : List Value), us.length = ps.length → bindArgs (PySem.W.fnOf "__init__" qual (defArgs st) (defBody st) (defScope st) .none kV dc pm an cd ct) ⟨us, []⟩ = pure (ps.zip us))
    (kin : K.In h) (G : h.Ns mainGlobals mg) (at_ : PySem.W.nsIn K mainGlobals x = some (some (.ref C)))
    (xL : K.lookup C = some (excClassObj nm q C N bs bm true sn sub ab col dd m0 m1 m2 m3 m5 "ValueError.__new__")) (rv : PySem.HandSPX.refsVE bm = true)
    (sa : PySem.W.findIn K (.ref C) "__setattr__" = some (some (.builtin "object.__setattr__"))) (eC : PySem.W.subIn K (.ref C) (.type "BaseException") = some true) (tC : PySem.W.typeIn K (.ref C) = some (.type "type")) (kC : PySem.W.keepIn K (.ref C) = true)
    (a1 : PySem.W.findIn K (.ref C) "__init__" = some (some (.ref f))) (t1 : PySem.W.typeIn K (.ref f) = some (.type "function"))
    (lk : K.lookup f = some ⟨oc, od, .func (PySem.W.fnOf "__init__" qual (defArgs st) (defBody st) (defScope st) .none kV dc pm an cd ct), osl⟩) (cod : PySem.W.codeIn K cd qual = true) (kp : PySem.W.keepIn K (.ref f) = true) (hd : PySem.W.hasDictIn K C = true) : HErr K mg x qual st ps :=
  ⟨C, f, _, ⟨⟨⟨_, _, _, _, _, _, _, _, _, _, _, _, _, _, _, xL, rv⟩, sa, eC, tC, kC⟩, a1, t1⟩, fun_mk lk cod kp, (fun_mk lk cod kp).binds hb, PySem.W.mg_of kin G at_, hd⟩
structure HBase (K : PySem.W.Frag) (mg : Str → Option Value) (x : Str) : Type where
  C : Addr
  N : BaseC K C
  g : mg x = some (.ref C)
  e : PySem.W.subIn K (.ref C) (.type "BaseException") = some true
  t : PySem.W.typeIn K (.ref C) = some (.type "type")
  h : PySem.W.hasDictIn K C = true
def baseOf {K : PySem.W.Frag} {h : Heap} {mg : Str → Option Value} {x : Str} {C : Addr} (kin : K.In h) (G : h.Ns mainGlobals mg) (at_ : PySem.W.nsIn K mainGlobals x = some (some (.ref C)))
    (rd : PySem.W.readsIn K C (.type "type") = true) (sp : PySem.W.specialIn K (.ref C) "__getattribute__" = some (some (.builtin "type.__getattribute__"))) (fi : PySem.W.findCls K (.ref C) (.type "type") "__init__" = some (.val (.builtin "ValueError.__init__")))
    (e : PySem.W.subIn K (.ref C) (.type "BaseException") = some true) (t : PySem.W.typeIn K (.ref C) = some (.type "type")) (hd : PySem.W.hasDictIn K C = true) : HBase K mg x := ⟨C, ⟨rd, sp, fi⟩, PySem.W.mg_of kin G at_, e, t, hd⟩
/-- an __init__ without fields -/
theorem ok_init0 {m : V} {P : Program} {w : World} {K : PySem.W.Frag} {mg : Str → Option Value} {base : Heap} {qual : Str} {st : Stmt} {f : Addr} {fd : FuncData} (F : Fun K "__init__" qual st f fd) (S : FnScope ["self"] ["self"] (defScope st))
    (hbody : ∀ (cdv : Value) (A : Around) (outer : List Env) (s : Shared) (H : Hp) (E : XK), Room 0 (A.deeper (envOfC qual (defScope st) s.heap.objs.size f cdv)) →
      PSs (cxOf CX0 P w K mg base ["self"] qual (defScope st) f cdv A outer s H E).nox (defBody st) (tDrop (tVeI K (tCons (tVar 0) (tCons (tC m) tNil))))) : FnOk P w K mg base CX0 1 f fd ["self"] (spI0 K) := by
  refine F.ok S (fun vs H Q E ⟨a, C, e, _⟩ => by rw [e]; rfl) (fun cdv A outer s H vs Q E hr ⟨a, C, e, T, ha, q⟩ => ?_)
  subst e
  exact ⟨_, hbody cdv A outer s H E hr, .ref a, rfl, a, C, [m], rfl, by simp, T, ha, q⟩
end Ly

namespace PySem.W
open PySem PySem.Calls PyProof.Rows
section
variable {prog : Program} {w : World} {M : Model} {A : Around} {E : Value → Shared → Prop} {s : Shared}
/-! ### tuples of which some are empty -/
def TupsO (h : Heap) : List Value → List (Option Value) → Prop
  | [], [] => True
  | v :: vs, f :: fs => (∃ a o xs n, v = .ref a ∧ h.get? a = some o ∧ o.cls = .type "tuple" ∧ o.data = .seq xs n ∧ xs[0]? = f) ∧ TupsO h vs fs
  | _, _ => False
theorem firstsO : ∀ (vs : List Value) (fs : List (Option Value)) {Q : List (Option Value) → Shared → Prop}, TupsO s.heap vs fs → Q fs s → wpAny M A (vs.mapM firstOfTuple') Q E s
  | [], [], _, _, h => by rw [List.mapM_nil]; exact wpAny_pure h
  | [], _ :: _, _, t, _ => t.elim
  | _ :: _, [], _, t, _ => t.elim
  | v :: vs, f :: fs, Q, t, h => by
    obtain ⟨⟨a, o, xs, n, rfl, ho, hc, hd, hf⟩, t⟩ := t
    rw [List.mapM_cons]
    refine wpAny_bind ?_
    rw [kas_first_eq]
    refine wpAny_bind (Looks.here (show Looks M s.heap (typeOf (.ref a)) o.cls from (Looks.ld ho).andThen .now) ?_)
    rw [hc, if_neg (by first | decide | simp)]
    refine wpAny_bind (listItems_at ho hd (wpAny_pure ?_))
    rw [hf]
    exact wpAny_bind (firstsO vs fs (Q := fun bs s' => wpAny M A (pure (f :: bs)) Q E s') t (wpAny_pure h))
theorem kind_mixed {vs : List Value} {fs : List (Option Value)} {Q : SortKind → Shared → Prop} (t : TupsO s.heap vs fs) (h1 : ∃ f r, fs = some f :: r) (h2 : none ∈ fs) (h : Q general' s) : wpAny M A (keyKind' vs.toArray) Q E s := by
  obtain ⟨f, r, rfl⟩ := h1
  rw [kat_kind_eq, List.mapM_toArray, map_eq_pure_bind]
  refine wpAny_bind (wpAny_bind (firstsO vs _ t (wpAny_pure ?_)))
  have hall : ¬ (((some f :: r).toArray.all fun x => x.isSome) = true) := by
    simp only [List.all_toArray]
    intro z
    have := List.all_eq_true.mp z none h2
    simp at this
  rw [if_neg hall]
  have h0 : ((some f :: r).toArray[0]?.bind id).isSome = true := by simp
  rw [if_pos h0]
  exact wpAny_pure h
theorem each_tupsO {h : Heap} : ∀ {vs : List Value} {ds : List PyData}, PySem.W.EachIs (fun v d => ∃ as, Reads h v d as) vs ds → (∀ d, d ∈ ds → ∃ xs, d = .tuple xs) →
    ∃ fs, TupsO h vs fs ∧ (.tuple [] ∈ ds → none ∈ fs) ∧ (∀ x r ds', ds = .tuple (x :: r) :: ds' → ∃ f fr, fs = some f :: fr)
  | _, _, .nil, _ => ⟨[], trivial, fun z => by simp at z, fun _ _ _ z => by cases z⟩
  | _, _, .cons (b := d) ⟨as, r⟩ t, ht => by
    obtain ⟨fs, h1, h2, h3⟩ := each_tupsO t fun d hd => ht d (List.mem_cons_of_mem _ hd)
    obtain ⟨ys, rfl⟩ := ht d (List.mem_cons_self ..)
    cases r with
    | @tuple a o xs n _ _ ho hc hd hr =>
      refine ⟨xs[0]? :: fs, ⟨⟨a, o, xs, n, rfl, ho, hc, hd, rfl⟩, h1⟩, fun z => ?_, fun x r ds' z => ?_⟩
      · rcases List.mem_cons.mp z with z | z
        · injection z with z
          subst z
          have e : xs.toList = [] := by cases q : xs.toList with
            | nil => rfl
            | cons _ _ => rw [q] at hr; cases hr
          have e2 : xs[0]? = none := by rw [← Array.getElem?_toList, e]; rfl
          rw [e2]; exact List.mem_cons_self ..
        · exact List.mem_cons_of_mem _ (h2 z)
      · injection z with z1 z2
        injection z1 with z1
        subst z1
        cases q : xs.toList with
        | nil => rw [q] at hr; cases hr
        | cons f fr => exact ⟨f, fs, by rw [← Array.getElem?_toList, q]; rfl⟩
/-- tuples, the first one not empty, some other empty -/
def SortableM (ds : List PyData) : Prop := (∀ d, d ∈ ds → ∃ xs, d = .tuple xs) ∧ .tuple [] ∈ ds ∧ ∃ x r ds', ds = .tuple (x :: r) :: ds'
theorem SortsAt.mixed {vs : List Value} {ds : List PyData} (e : PySem.W.EachIs (fun v d => ∃ as, Reads s.heap v d as) vs ds) (hal : AllAlike ds) (hk : SortableM ds) (hu : ∀ d, d ∈ ds → A.units + d.depth < cLine) : SortsAt prog w A s (dataKind s.heap ds) vs := by
  have room : ∀ {d d' : PyData}, d ∈ ds → A.units + min d.depth d'.depth < cLine := fun {d d'} hd => Nat.lt_of_le_of_lt (Nat.add_le_add_left (Nat.min_le_left _ _) _) (hu d hd)
  refine ⟨fun v hv => ?_, general', ?_, fun h2 E Q hq => ?_⟩
  · obtain ⟨d, hd, as, r⟩ := e.left v hv
    exact ⟨_, dataKind_some hal hd r⟩
  · intro E x y a b Q ha hb hq
    obtain ⟨d, as, hd, ra, rfl⟩ := dataKind_inv ha
    obtain ⟨d', as', hd', rb, rfl⟩ := dataKind_inv hb
    have eg : keyLt' general' x y = oneLt' false x y := rfl
    rw [eg]
    refine oneLt_alike (fun h => by cases h) ra rb (hal d hd d' hd') ?_ (room hd) hq
    obtain ⟨xs, rfl⟩ := hk.1 d hd
    simp
  · obtain ⟨fs, t1, t2, t3⟩ := each_tupsO e hk.1
    obtain ⟨x, r, ds', e'⟩ := hk.2.2
    exact kind_mixed t1 (t3 x r ds' e') (t2 hk.2.1) hq
end
end PySem.W
namespace Ly
open PySem PySem.Spec PyProof.Rows L2
/-! ### sorted -/
def keyLeP (x y : V × PyData) : Bool := PySem.W.sortLe (listOrd itemOrd) false (fun q : V × PyData => PySem.W.keyToks q.2) x y
def rSortD (K : PySem.W.Frag) : List V → Hp → VK → Prop := fun vs H Q => ∃ a xs ps, vs = [V.ref a] ∧ SqL K H a xs ∧ DpAll K H xs ps ∧ PySem.W.AllAlike ps ∧ (PySem.W.Sortable ps ∨ PySem.W.SortableM ps) ∧ (∀ p ∈ ps, p.depth ≤ 60) ∧
  ∀ p', H p' = none → Q (.ref p') (upd H p' (.lst (((xs.zip ps).mergeSort keyLeP).map Prod.fst)))
section
variable {X : Cx}
theorem dp_each {pins : List (Addr × Obj)} {σ : L2.St} {H : Hp} {s : Shared} (I : Inv X pins σ H s) : ∀ {xs : List V} {ps : List PyData} {us : List Value}, DpAll X.K H xs ps → Vals xs us → PySem.W.EachIs (fun u p => ∃ as, Reads s.heap u p as) us ps
  | _, _, _, .nil, .nil => .nil
  | _, _, _, .cons h t, .cons r rs => .cons (Dp.reads I _ _ _ h r) (dp_each I t rs)
theorem vals_each : ∀ {xs : List V} {ps : List PyData} {us : List Value}, Vals xs us → xs.length = ps.length → PySem.W.EachIs (fun u (q : V × PyData) => RelV q.1 u) us (xs.zip ps)
  | _, _, _, .nil, _ => .nil
  | _, p :: ps, _, .cons r rs, h => .cons r (vals_each rs (by simpa using h))
theorem each_vals : ∀ {us : List Value} {qs : List (V × PyData)}, PySem.W.EachIs (fun u (q : V × PyData) => RelV q.1 u) us qs → Vals (qs.map Prod.fst) us
  | _, _, .nil => .nil
  | _, _, .cons r rs => .cons r (each_vals rs)
theorem each_key {h : Heap} {qs : List PyData} (hal : PySem.W.AllAlike qs) : ∀ {us : List Value} {xs : List V} {ps : List PyData}, (∀ p ∈ ps, p ∈ qs) → xs.length = ps.length → PySem.W.EachIs (fun u p => ∃ as, Reads h u p as) us ps →
    PySem.W.EachIs (fun v (b : V × PyData) => (PySem.W.dataKind h qs).keyOf v = some (PySem.W.keyToks b.2)) us (xs.zip ps)
  | _, [], _, _, hl, .nil => .nil
  | _, x :: xs, p :: ps, hm, hl, .cons ⟨as, r⟩ t => .cons (PySem.W.dataKind_some hal (hm p List.mem_cons_self) r) (each_key hal (fun q hq => hm q (List.mem_cons_of_mem _ hq)) (by simpa using hl) t)
theorem call_sortD (hu : X.A.units + 64 < cLine) : CallR X (.builtin "sorted") (rSortD X.K) := by
  intro pins s σ H vs us Q I r h
  obtain ⟨a, xs, ps, rfl, hs, hd, hal, hsr, hdep, q⟩ := h
  obtain ⟨its, rv, hl, hz⟩ := I.list hs
  obtain ⟨u, rfl, ru⟩ := vals1 r
  obtain rfl : u = Value.ref a := ru
  have ee := dp_each I hd rv
  have le : its.length = ps.length := ee.length
  have lx : xs.length = ps.length := rv.length.trans le
  have ee' : PySem.W.EachIs (fun u p => ∃ as, Reads (PySem.W.sortingHeap (PySem.W.copyHeap s.heap its) (s.heap.objs.size + 1) its) u p as) its ps := ee.mono fun u p => fun ⟨as, z⟩ => ⟨as, Reads.keeps (fun b o e => PySem.W.sorting_copy_old e) z⟩
  have hu2 : ∀ p ∈ ps, X.A.in1.in1.units + p.depth < cLine := fun p hp => by
    have := hdep p hp
    have e1 : X.A.in1.in1.units ≤ X.A.units + 2 := by simp only [Around.in1_units]; omega
    omega
  have S : PySem.W.SortsAt X.prog X.w X.A.in1.in1 { s with heap := PySem.W.sortingHeap (PySem.W.copyHeap s.heap its) (s.heap.objs.size + 1) its } (PySem.W.dataKind (PySem.W.sortingHeap (PySem.W.copyHeap s.heap its) (s.heap.objs.size + 1) its) ps) its := by
    rcases hsr with hsr | hsr
    · exact PySem.W.SortsAt.data ee' hal hsr hu2
    · exact PySem.W.SortsAt.mixed ee' hal hsr hu2
  have hout := PySem.W.sortVals_each (R := fun u (q : V × PyData) => RelV q.1 u) (rev := false) (κ := PySem.W.dataKind (PySem.W.sortingHeap (PySem.W.copyHeap s.heap its) (s.heap.objs.size + 1) its) ps) (fun q : V × PyData => PySem.W.keyToks q.2) (vals_each rv lx) (each_key hal (fun p hp => hp) lx ee')
  have hv := each_vals hout
  refine PySem.W.sorted_vals hl.isList S (by rw [← rv.length]; exact hz) ?_
  obtain ⟨e, he⟩ := sortedAll_at s.heap its (PySem.W.sortVals (PySem.W.dataKind (PySem.W.sortingHeap (PySem.W.copyHeap s.heap its) (s.heap.objs.size + 1) its) ps) false its its).toArray
  have hsz : s.heap.objs.size ≤ s.heap.objs.size + 1 := Nat.le_succ _
  refine ⟨.ref (s.heap.objs.size + 1), _, I.laid (t' := s.toks) (a := s.heap.objs.size + 1) (o := .lst (((xs.zip ps).mergeSort keyLeP).map Prod.fst)) (fun b o => sortedAll_old) hsz ⟨?_, _, e, hv, he⟩, rfl, q _ (I.hok.fresh hsz)⟩
  rw [List.length_map, (List.mergeSort_perm _ _).length_eq, List.length_zip, lx, Nat.min_self, ← lx]
  exact hz
end
end Ly

namespace Ly
open PySem PySem.Spec PyProof.Rows L2
/-! ### repr of data among which empty dicts stand -/
mutual
def emB : PyData → Bool
  | .list xs => emBs xs
  | .tuple xs => emBs xs
  | .dict kvs => kvs.isEmpty
  | _ => true
def emBs : List PyData → Bool
  | [] => true
  | x :: xs => emB x && emBs xs
end
/-- no dict among them is that of the modules -/
def Away (h : Heap) (as : List Addr) : Prop := ∀ b, b ∈ as → ∀ o es n, h.get? b = some o → o.data = .dict es n → b ≠ sysModules
theorem Away.left {h : Heap} {as bs : List Addr} (x : Away h (as ++ bs)) : Away h as := fun b hb => x b (List.mem_append_left _ hb)
theorem Away.right {h : Heap} {as bs : List Addr} (x : Away h (as ++ bs)) : Away h bs := fun b hb => x b (List.mem_append_right _ hb)
theorem Away.tl {h : Heap} {a : Addr} {as : List Addr} (x : Away h (a :: as)) : Away h as := fun b hb => x b (List.mem_cons_of_mem _ hb)
section
variable {prog : Program} {w : World} {h : Heap}
theorem none_read {l : List Value} {as : List Addr} (r : ReadsAll h l [] as) : l = [] := by cases r; rfl
mutual
theorem rk_of : ∀ {v : Value} {d : PyData} {as : List Addr}, Reads h v d as → d.showable = true → Away h as → emB d = true → d.shown.length ≤ sizeLine → ∃ bs, ReadAtMost h d.depth bs ∧ ReprK prog w bs h d.depth v d.shown
  | _, _, _, .none, q1, q2, q3, q4 => ReprK.of_reads .none q1 (fun z => by cases z) q4
  | _, _, _, .bool b, q1, q2, q3, q4 => ReprK.of_reads (.bool b) q1 (fun z => by cases z) q4
  | _, _, _, .int i t, q1, q2, q3, q4 => ReprK.of_reads (.int i t) q1 (fun z => by cases z) q4
  | _, _, _, .str x t, q1, q2, q3, q4 => ReprK.of_reads (.str x t) q1 (fun z => by cases z) q4
  | _, _, _, .list (a := a) (vs := vs) (xs := xs) g1 g2 g3 g4, q1, q2, q3, q4 => by
    rw [PyData.shown] at q4
    obtain ⟨bs, hb, hk⟩ := rks_of g4 (by rw [PyData.showable] at q1; exact q1) q2.tl (by rw [emB] at q3; exact q3) fun t ht => Nat.le_trans (listText_mem_le ht) q4
    have dp : PyData.depthAll xs < (PyData.list xs).depth := by rw [PyData.depth]; exact Nat.lt_succ_self _
    have off : a ∉ bs := not_mem_of_deeper (.list g1 g2 g3 g4) dp hb
    refine ⟨a :: bs, ReadAtMost.cons (.list g1 g2 g3 g4) (Nat.le_refl _) (hb.mono (Nat.le_of_lt dp)), ?_⟩
    rw [PyData.depth, PyData.shown]
    obtain ⟨l⟩ := vs
    cases l with
    | cons y l => exact ReprK.list g1 g2 g3 off (by rw [hk.length_eq]; simp) fun i z e => hk.item i z (by simpa using e)
    | nil =>
      have e : xs = [] := by
        have z : ReadsAll h [] xs _ := g4
        cases z
        rfl
      subst e
      rw [PyData.shownAll, listText_nil]
      exact ReprK.listEmpty g1 g2 g3
  | _, _, _, .tuple (a := a) (xs := xs) g1 g2 g3 g4, q1, q2, q3, q4 => by
    rw [PyData.shown] at q4
    obtain ⟨bs, hb, hk⟩ := rks_of g4 (by rw [PyData.showable] at q1; exact q1) (by first | exact q2.tl | exact q2) (by rw [emB] at q3; exact q3) fun t ht => Nat.le_trans (tupleText_mem_le ht) q4
    have dp : PyData.depthAll xs < (PyData.tuple xs).depth := by rw [PyData.depth]; exact Nat.lt_succ_self _
    have off : a ∉ bs := not_mem_of_deeper (.tuple g1 g2 g3 g4) dp hb
    refine ⟨a :: bs, ReadAtMost.cons (.tuple g1 g2 g3 g4) (Nat.le_refl _) (hb.mono (Nat.le_of_lt dp)), ?_⟩
    rw [PyData.depth, PyData.shown]
    exact ReprK.tuple g1 g2 g3 off hk
  | _, _, _, .dict (a := a) (es := es) (kvs := kvs) g1 g2 g3 g4 g5, q1, q2, q3, q4 => by
    have e : kvs = [] := by rw [emB] at q3; exact List.isEmpty_iff.mp q3
    subst e
    have e2 : es.toList = [] := by
      have z := none_read g4
      exact List.map_eq_nil_iff.mp z
    have off : (a == sysModules) = false := beq_eq_false_iff_ne.mpr (q2 a (by simp) _ _ _ g1 g3)
    refine ⟨[a], ReadAtMost.cons (.dict g1 g2 g3 g4 g5) (Nat.le_refl _) (fun _ z => by cases z), ?_⟩
    have z : ReprK prog w [a] h (0 + 1) (.ref a) (dictText []) := ReprK.dict g1 g2 g3 off (fun z => by cases z) (by rw [e2]; exact .nil)
    exact z
theorem rks_of : ∀ {vs : List Value} {ds : List PyData} {as : List Addr}, ReadsAll h vs ds as → PyData.showableAll ds = true → Away h as → emBs ds = true → (∀ t, t ∈ PyData.shownAll ds → t.length ≤ sizeLine) →
    ∃ bs, ReadAtMost h (PyData.depthAll ds) bs ∧ ReprAllK prog w bs h (PyData.depthAll ds) vs (PyData.shownAll ds)
  | _, _, _, .nil, _, _, _, _ => ⟨[], fun _ z => (by cases z), by rw [PyData.shownAll]; exact .nil⟩
  | _, _, _, .cons (d := d) (ds := ds) r rs, q1, q2, q3, q4 => by
    rw [PyData.showableAll, Bool.and_eq_true] at q1
    rw [emBs, Bool.and_eq_true] at q3
    rw [PyData.shownAll] at q4
    obtain ⟨b1, y1, k1⟩ := rk_of r q1.1 q2.left q3.1 (q4 _ List.mem_cons_self)
    obtain ⟨b2, y2, k2⟩ := rks_of rs q1.2 q2.right q3.2 fun t ht => q4 t (List.mem_cons_of_mem _ ht)
    rw [PyData.depthAll, PyData.shownAll]
    refine ⟨b1 ++ b2, (y1.mono (Nat.le_max_left _ _)).append (y2.mono (Nat.le_max_right _ _)), .cons ?_ ?_⟩
    · exact (k1.more fun b hb => List.mem_append_left _ hb).level_le (Nat.le_max_left _ _)
    · exact k2.more_le (fun b hb => List.mem_append_right _ hb) (Nat.le_max_right _ _)
end
theorem shows_of {a : Addr} {d : PyData} {as : List Addr} (r : Reads h (.ref a) d as) (q1 : d.showable = true) (q2 : Away h as) (q3 : emB d = true) (q4 : d.shown.length ≤ sizeLine) : ∃ T idr, ShowsBy prog w h a d T idr := by
  cases r with
  | @list _ o vs n xs bs0 g1 g2 g3 g4 =>
    have q4' := q4
    rw [PyData.shown] at q4'
    obtain ⟨bs, hb, hk⟩ := rks_of (prog := prog) (w := w) g4 (by rw [PyData.showable] at q1; exact q1) q2.tl (by rw [emB] at q3; exact q3) fun t ht => Nat.le_trans (listText_mem_le ht) q4'
    have dp : PyData.depthAll xs < (PyData.list xs).depth := by rw [PyData.depth]; exact Nat.lt_succ_self _
    have off : a ∉ bs := not_mem_of_deeper (.list g1 g2 g3 g4) dp hb
    refine ⟨_, _, F.slot_list_repr.toG, F.slot_list_str, F.slot_list_format, fun s k => ⟨o, k _ _ g1, g2⟩, fun A E s Q hg hu k hQ => ?_⟩
    rw [PyData.depth] at hu
    rw [PyData.shown] at hQ
    obtain ⟨l⟩ := vs
    cases l with
    | cons y l => exact call_list_reprK g1 g2 g3 off (by rw [hk.length_eq]; simp) (fun i z e => hk.item i z (by simpa using e)) hg (fun b _ => Clear.nil b) hu k hQ q4'
    | nil =>
      have e : xs = [] := by
        have z : ReadsAll h [] xs _ := g4
        cases z
        rfl
      subst e
      rw [PyData.shownAll, listText_nil] at hQ
      exact call_list_repr_empty ⟨o, k _ _ g1, g2⟩ (k _ _ g1) g3 (hQ s.heap _ _ fun _ _ z => z)
  | @tuple _ o vs n xs _ g1 g2 g3 g4 =>
    have q4' := q4
    rw [PyData.shown] at q4'
    obtain ⟨bs, hb, hk⟩ := rks_of (prog := prog) (w := w) g4 (by rw [PyData.showable] at q1; exact q1) (by first | exact q2.tl | exact q2) (by rw [emB] at q3; exact q3) fun t ht => Nat.le_trans (tupleText_mem_le ht) q4'
    have dp : PyData.depthAll xs < (PyData.tuple xs).depth := by rw [PyData.depth]; exact Nat.lt_succ_self _
    have off : a ∉ bs := not_mem_of_deeper (.tuple g1 g2 g3 g4) dp hb
    refine ⟨_, _, F.slot_tuple_repr, F.slot_tuple_str, F.slot_tuple_format, fun s k => ⟨o, k _ _ g1, g2⟩, fun A E s Q hg hu k hQ => ?_⟩
    rw [PyData.depth] at hu
    rw [PyData.shown] at hQ
    exact call_tuple_reprK g1 g2 g3 off hk hg (fun b _ => Clear.nil b) hu k hQ q4'
  | @dict _ o es n kvs _ _ g1 g2 g3 g4 g5 =>
    have e : kvs = [] := by rw [emB] at q3; exact List.isEmpty_iff.mp q3
    subst e
    have e2 : es.toList = [] := List.map_eq_nil_iff.mp (none_read g4)
    have off : (a == sysModules) = false := beq_eq_false_iff_ne.mpr (q2 a (by simp) _ _ _ g1 g3)
    refine ⟨_, _, F.slot_dict_repr, F.slot_dict_str, F.slot_dict_format, fun s k => ⟨o, k _ _ g1, g2⟩, fun A E s Q hg hu k hQ => ?_⟩
    exact call_dict_reprK (as := []) (d := 0) (ps := []) g1 g2 g3 off (fun z => by cases z) (by rw [e2]; exact .nil) hg (fun b _ => Clear.nil b) hu k hQ q4
end
end Ly

set_option exponentiation.threshold 4000
namespace Ly
open PySem PySem.Spec PyProof.Rows L2
/-! ### repr, also of empty dicts -/
mutual
def toPyR : D → Option PyData
  | .non => some .none
  | .bl b => some (.bool b)
  | .int i => some (.int i)
  | .str x => some (.str x)
  | .dc0 => some (.dict [])
  | .tup l => (toPyRs l).map .tuple
  | .lst l => (toPyRs l).map .list
  | _ => none
def toPyRs : List D → Option (List PyData)
  | [] => some []
  | d :: l => match toPyR d, toPyRs l with
    | some x, some y => some (x :: y)
    | _, _ => none
end
mutual
inductive DpR (K : PySem.W.Frag) (H : Hp) : V → PyData → Prop
  | non : DpR K H .non .none
  | bl (b : Bool) : DpR K H (.bl b) (.bool b)
  | int (i : Int) : DpR K H (.int i) (.int i)
  | str (x : Str) : DpR K H (.str x) (.str x)
  | dct {a : Addr} : H a = some (.dK []) → DpR K H (.ref a) (.dict [])
  | tup {a : Addr} {vs : List V} {ps : List PyData} : SqT K H a vs → DpRs K H vs ps → DpR K H (.ref a) (.tuple ps)
  | lst {a : Addr} {vs : List V} {ps : List PyData} : SqL K H a vs → DpRs K H vs ps → DpR K H (.ref a) (.list ps)
inductive DpRs (K : PySem.W.Frag) (H : Hp) : List V → List PyData → Prop
  | nil : DpRs K H [] []
  | cons {v : V} {vs : List V} {p : PyData} {ps : List PyData} : DpR K H v p → DpRs K H vs ps → DpRs K H (v :: vs) (p :: ps)
end
section
variable {K : PySem.W.Frag} {G : Gh} {H : Hp}
mutual
theorem Rep.dpR : ∀ {v : V} {d : D} {p : PyData}, Rep K G H v d → toPyR d = some p → DpR K H v p
  | _, .non, _, .non, e => by cases e; exact .non
  | _, .bl _, _, .bl _, e => by cases e; exact .bl _
  | _, .int _, _, .int _, e => by cases e; exact .int _
  | _, .str _, _, .str _, e => by cases e; exact .str _
  | _, .dc0, _, .dc0 _ h, e => by cases e; exact .dct h
  | _, .tup l, _, .tup q r, e => by
    simp only [toPyR] at e
    cases h : toPyRs l with
    | none => rw [h] at e; cases e
    | some ps => rw [h] at e; cases e; exact .tup (SqT.of q) (RepL.dpR r h)
  | _, .lst l, _, .lst _ q r, e => by
    simp only [toPyR] at e
    cases h : toPyRs l with
    | none => rw [h] at e; cases e
    | some ps => rw [h] at e; cases e; exact .lst (SqL.of q) (RepL.dpR r h)
  | _, .dct, _, .dct _ _ _, e => by cases e
  | _, .bag _, _, .bag _, e => by cases e
  | _, .ty _, _, .ty _, e => by cases e
  | _, .scr _, _, .scr _, e => by cases e
theorem RepL.dpR : ∀ {vs : List V} {ds : List D} {ps : List PyData}, RepL K G H vs ds → toPyRs ds = some ps → DpRs K H vs ps
  | _, [], _, .nil, e => by cases e; exact .nil
  | _, d :: ds, _, .cons r t, e => by
    simp only [toPyRs] at e
    cases h1 : toPyR d with
    | none => rw [h1] at e; cases e
    | some x =>
      cases h2 : toPyRs ds with
      | none => rw [h1, h2] at e; cases e
      | some y => rw [h1, h2] at e; cases e; exact .cons (Rep.dpR r h1) (RepL.dpR t h2)
end
theorem TmpOk.dpR {j : Nat} {v : V} {r : RV} {p : PyData} (h : TmpOk K G H j v r) (e : toPyR (dOf r) = some p) : DpR K H v p := by
  cases r with
  | val d => exact Rep.dpR h e
  | new l =>
    obtain ⟨a, vs, rfl, g, q, rl⟩ := h
    simp only [dOf, toPyR] at e
    cases h : toPyRs l with
    | none => rw [h] at e; cases e
    | some ps => rw [h] at e; cases e; exact .lst (SqL.of q) (RepL.dpR rl h)
  | newD t m => cases e
end
section
variable {X : Cx} {pins : List (Addr × Obj)} {σ : L2.St} {H : Hp} {s : Shared}
theorem kv_nil {vs : List (Key × Value)} (h : KV ([] : List (Key × V)) vs) : vs = [] := by cases h; rfl
mutual
theorem DpR.reads (I : Inv X pins σ H s) : ∀ (p : PyData) (v : V) (u : Value), DpR X.K H v p → RelV v u → ∃ as, Reads s.heap u p as ∧ Away s.heap as
  | .none, _, _, h, r => by cases h; cases r; exact ⟨_, .none, fun _ z => by cases z⟩
  | .bool b, _, _, h, r => by cases h; cases r; exact ⟨_, .bool b, fun _ z => by cases z⟩
  | .int i, _, _, h, r => by cases h; obtain ⟨t, rfl⟩ := r; exact ⟨_, .int i t, fun _ z => by cases z⟩
  | .str x, _, _, h, r => by cases h; obtain ⟨t, rfl⟩ := r; exact ⟨_, .str x t, fun _ z => by cases z⟩
  | .list ds, _, _, h, r => by
    cases h with
    | @lst a vs _ hs ha =>
      cases r
      obtain ⟨its, rv, ⟨o, n, ho, hc, _, hd⟩, _⟩ := I.list hs
      obtain ⟨as, hr, aw⟩ := DpRs.reads I ds vs its ha rv
      refine ⟨_, .list ho hc hd hr, fun b hb o' es n' e e2 => ?_⟩
      rcases List.mem_cons.mp hb with z | z
      · rw [z, ho] at e; cases e; rw [hd] at e2; cases e2
      · exact aw b z o' es n' e e2
  | .tuple ds, _, _, h, r => by
    cases h with
    | @tup a vs _ hs ha =>
      cases r
      obtain ⟨its, rv, ⟨o, ho, hc, n, hd⟩, _⟩ := I.tuple hs
      obtain ⟨as, hr, aw⟩ := DpRs.reads I ds vs its ha rv
      exact ⟨_, .tuple ho hc hd hr, aw⟩
  | .dict kvs, _, _, h, r => by
    cases h with
    | @dct a ha =>
      cases r
      obtain ⟨_, hs, vs, kv, o, es, ep, ho, hx, hd, _, hp, _⟩ := I.hok _ _ ha
      have e0 := kv_nil kv
      subst e0
      have e2 : es.toList = [] := by cases q : es.toList with
        | nil => rfl
        | cons y ys => rw [q] at hp; cases hp
      refine ⟨_, .dict (kvs := []) (as := []) (bs := []) ho hx.1 hd (by rw [e2]; exact .nil) (by rw [e2]; exact .nil), fun b hb o' es' n' e e3 => ?_⟩
      simp at hb
      rw [hb]
      exact beq_eq_false_iff_ne.mp hs
theorem DpRs.reads (I : Inv X pins σ H s) : ∀ (ps : List PyData) (vs : List V) (us : List Value), DpRs X.K H vs ps → Vals vs us → ∃ as, ReadsAll s.heap us ps as ∧ Away s.heap as
  | [], _, _, h, r => by cases h; cases r; exact ⟨_, .nil, fun _ z => by cases z⟩
  | p :: ps, _, _, h, r => by
    cases h with
    | cons h1 h2 =>
      cases r with
      | cons r1 r2 =>
        obtain ⟨as, q1, a1⟩ := DpR.reads I p _ _ h1 r1
        obtain ⟨bs, q2, a2⟩ := DpRs.reads I ps _ _ h2 r2
        refine ⟨_, .cons q1 q2, fun b hb => ?_⟩
        rcases List.mem_append.mp hb with z | z
        · exact a1 b z
        · exact a2 b z
end
end
def showsR (p : PyData) : Prop := p.showable = true ∧ emB p = true ∧ p.depth ≤ 60 ∧ p.shown.length ≤ sizeLine
def rReprR (K : PySem.W.Frag) : List V → Hp → VK → Prop := fun xs H Q => ∃ v p, xs = [v] ∧ DpR K H v p ∧ showsR p ∧ Q (.str p.shown) H
theorem call_reprR {X : Cx} (hg : X.A.guards = some []) (hu : X.A.units + 64 < cLine) : CallR X (.builtin "repr") (rReprR X.K) := by
  intro pins st sl H xs us Q I r hh
  obtain ⟨v, p, rfl, hd, ⟨hs, hnd, hdep, hz⟩, q⟩ := hh
  obtain ⟨u, rfl, ru⟩ := vals1 r
  obtain ⟨as, rd, aw⟩ := DpR.reads I p v u hd ru
  have sl2 : ∀ a : Addr, u = .ref a → wpAny (model X.prog X.w) X.A (call (.builtin "repr") [u]) (fun u' s' => ∃ x H', Inv X pins sl H' s' ∧ RelV x u' ∧ Q x H') X.xe st := fun a e => by
    subst e
    obtain ⟨T, idr, S⟩ := shows_of (prog := X.prog) (w := X.w) rd hs aw hnd hz
    refine call_repr_slot (by omega) (S.typeIs st fun _ _ z => z) S.slotRepr ?_
    refine S.call X.A.in1 _ st _ hg (by show X.A.units + 1 + p.depth < cLine; omega) (fun _ _ z => z) fun h' u' tk hk => ?_
    exact ⟨_, _, rfl, .str _, H, I.kept (h' := h') (t' := tk) hk, ⟨_, rfl⟩, q⟩
  cases hd with
  | non => cases ru; exact PySem.P.repr_of_none ⟨.str _, H, I.tok _, ⟨_, rfl⟩, by simpa [PyData.shown] using q⟩
  | bl b => cases ru; exact PySem.P.repr_of_bool ⟨.str _, H, I.tok _, ⟨_, rfl⟩, by cases b <;> simpa [PyData.shown] using q⟩
  | int i => obtain ⟨t, rfl⟩ := ru; exact PySem.P.repr_of_int (by simpa [PyData.showable] using hs) ⟨.str _, H, I.tok _, ⟨_, rfl⟩, by simpa [PyData.shown] using q⟩
  | str x => obtain ⟨t, rfl⟩ := ru; exact PySem.P.repr_of_str ⟨.str _, H, I.tok _, ⟨_, rfl⟩, by simpa [PyData.shown] using q⟩ (by simpa [PyData.shown] using hz)
  | lst _ _ => cases ru; exact sl2 _ rfl
  | tup _ _ => cases ru; exact sl2 _ rfl
  | dct _ => cases ru; exact sl2 _ rfl
section
variable {B : Bs} {K : PySem.W.Frag}
def gReprR : G1 := fun rs R => ∃ r p, rs = [r] ∧ toPyR (dOf r) = some p ∧ showsR p ∧ R (.val (.str p.shown))
theorem snd_reprR : SndC K B gReprR (rReprR K) := by
  rintro G H σ ρ n τ vs rs R Q e hl ⟨r, p, rfl, hp, hs, hR⟩ k
  obtain ⟨v, rfl⟩ := len1 hl
  have e : EnvOk K B.1 B.2 G H σ ρ n (τ ++ [(v, r)]) := e
  exact ⟨v, p, rfl, e.top.dpR hp, hs, k _ _ _ _ hR (e.pop.pushV (.str _))⟩
end
/-- d can be shown, no deeper than k, in at most b signs -/
def ShR (k b : Nat) (d : D) : Prop := ∃ p, toPyR d = some p ∧ p.showable = true ∧ emB p = true ∧ p.depth ≤ k ∧ p.shown.length ≤ b
def ShRs (k b : Nat) (l : List D) : Prop := ∃ ps, toPyRs l = some ps ∧ PyData.showableAll ps = true ∧ emBs ps = true ∧ PyData.depthAll ps ≤ k ∧ piled (PyData.shownAll ps) ≤ l.length * (b + 2) ∧ ps.length = l.length
theorem ShR.mono {k b k' b' : Nat} {d : D} (h : ShR k b d) (hk : k ≤ k') (hb : b ≤ b') : ShR k' b' d := by
  obtain ⟨p, h1, h2, h3, h4, h5⟩ := h
  exact ⟨p, h1, h2, h3, Nat.le_trans h4 hk, Nat.le_trans h5 hb⟩
def shRB (k b : Nat) (d : D) : Bool := match toPyR d with
  | some p => p.showable && emB p && decide (p.depth ≤ k) && decide (p.shown.length ≤ b)
  | none => false
theorem shR_of {k b : Nat} {d : D} (h : shRB k b d = true) : ShR k b d := by
  unfold shRB at h
  split at h
  · rename_i p e
    simp at h
    exact ⟨p, e, h.1.1.1, h.1.1.2, h.1.2, h.2⟩
  · cases h
theorem shR_non : ShR 0 4 .non := shR_of (by decide +kernel)
theorem shR_dc0 : ShR 1 2 .dc0 := shR_of (by decide +kernel)
theorem shR_bl {b : Bool} : ShR 0 5 (.bl b) := by cases b <;> exact shR_of (by decide +kernel)
theorem shR_int {i : Int} {k : Nat} (hk : 0 < k) (hk2 : k ≤ 500) (h : i.natAbs < 10 ^ k) : ShR 0 (k + 1) (.int i) := by
  refine ⟨.int i, rfl, ?_, rfl, Nat.le_refl _, ?_⟩
  · have h2 : i.natAbs < 10 ^ 500 := Nat.lt_of_lt_of_le h (Nat.pow_le_pow_right (by decide) hk2)
    have h3 : (10 : Nat) ^ 500 ≤ 2 ^ 1920 := by decide +kernel
    have h4 : i.natAbs.log2 < 1920 := by
      by_cases z : i.natAbs = 0
      · rw [z]; decide
      · exact (Nat.log2_lt z).mpr (Nat.lt_of_lt_of_le h2 h3)
    exact decide_eq_true h4
  · show (Str.ofString (toString i)).length ≤ _
    rw [PySem.ofString_length]
    exact int_text_length_le10 hk h
theorem shRs_of {k b : Nat} : ∀ {l : List D}, (∀ d ∈ l, ShR k b d) → ShRs k b l
  | [], _ => ⟨[], rfl, rfl, rfl, Nat.zero_le _, by simp [PyData.shownAll, piled_nil], rfl⟩
  | d :: l, h => by
    obtain ⟨p, h1, h2, h3, h4, h5⟩ := h d (List.mem_cons_self ..)
    obtain ⟨ps, g1, g2, g3, g4, g5, g6⟩ := shRs_of (l := l) fun x hx => h x (List.mem_cons_of_mem _ hx)
    refine ⟨p :: ps, ?_, ?_, ?_, ?_, ?_, by rw [List.length_cons, List.length_cons, g6]⟩
    · simp only [toPyRs, h1, g1]
    · simp only [PyData.showableAll, h2, g2, Bool.and_self]
    · simp only [emBs, h3, g3, Bool.and_self]
    · simp only [PyData.depthAll]; omega
    · simp only [PyData.shownAll]
      rw [piled_cons, List.length_cons, Nat.add_mul]; omega
theorem tupText_le (ts : List Str) : (tupleText ts).length ≤ piled ts + 2 := by
  unfold tupleText
  rw [strLen_append, strLen_append]
  have e : (Str.ofString (if (ts.length == 1) = true then ",)" else ")")).length ≤ 2 := by
    split <;> (rw [PySem.ofString_length]; decide)
  have e1 : (Str.ofString "(").length = 1 := by rw [PySem.ofString_length]; rfl
  by_cases h : ts = []
  · subst h
    have z : (Str.ofString (if (([] : List Str).length == 1) = true then ",)" else ")")).length = 1 := by rw [PySem.ofString_length]; rfl
    show _ + (Str.empty).length + _ ≤ _
    have z2 : Str.empty.length = 0 := rfl
    rw [z2]
    omega
  · have j := join_length_add ts h
    omega
theorem lstText_le (ts : List Str) : (listText ts).length ≤ piled ts + 2 := by
  unfold listText
  rw [strLen_append]
  have e1 : (Str.ofString "[").length = 1 := by rw [PySem.ofString_length]; rfl
  have e2 : (Str.ofString "]").length = 1 := by rw [PySem.ofString_length]; rfl
  cases ts with
  | nil => show (Str.ofString "[").length + _ ≤ _; omega
  | cons t r =>
    show (textFrom 1 (Str.ofString "[" ++ (if 0 > 0 then ", " else "" : String) ++ t) r).length + _ ≤ _
    rw [textFrom_length_pos r 1 _ (by decide), strLen_append, strLen_append, piled_cons]
    have e3 : (Str.ofString (if 0 > 0 then ", " else "" : String)).length = 0 := by rw [PySem.ofString_length]; rfl
    omega
theorem shR_tup {k b : Nat} {l : List D} (h : ∀ d ∈ l, ShR k b d) : ShR (k + 1) (l.length * (b + 2) + 2) (.tup l) := by
  obtain ⟨ps, g1, g2, g3, g4, g5, g6⟩ := shRs_of h
  refine ⟨.tuple ps, by simp only [toPyR, g1, Option.map_some], g2, g3, ?_, ?_⟩
  · simp only [PyData.depth]; omega
  · simp only [PyData.shown]
    exact Nat.le_trans (tupText_le _) (by omega)
theorem shR_lst {k b : Nat} {l : List D} (h : ∀ d ∈ l, ShR k b d) : ShR (k + 1) (l.length * (b + 2) + 2) (.lst l) := by
  obtain ⟨ps, g1, g2, g3, g4, g5, g6⟩ := shRs_of h
  refine ⟨.list ps, by simp only [toPyR, g1, Option.map_some], g2, g3, ?_, ?_⟩
  · simp only [PyData.depth]; omega
  · simp only [PyData.shown]
    exact Nat.le_trans (lstText_le _) (by omega)
/-- what repr gives -/
def reprD (d : D) : Str := match toPyR d with
  | some p => p.shown
  | none => Str.empty
theorem gReprR_of {r : RV} {R : RV → Prop} {k b : Nat} (h : ShR k b (dOf r)) (hk : k ≤ 60) (hb : b ≤ 10000000) (q : R (.val (.str (reprD (dOf r))))) : gReprR [r] R := by
  obtain ⟨p, e, h2, h3, h4, h5⟩ := h
  refine ⟨r, p, rfl, e, ⟨h2, h3, Nat.le_trans h4 hk, Nat.le_trans h5 (Nat.le_trans hb (by decide))⟩, ?_⟩
  unfold reprD at q
  rw [e] at q
  exact q
end Ly

namespace Ly
open PySem PySem.Spec PyProof.Rows L2
theorem kI_non : isiB .non "int" = some false := by rw [kI]
theorem kI_bl {b : Bool} : isiB (.bl b) "int" = some true := by rw [kI]
theorem kI_int {i : Int} : isiB (.int i) "int" = some true := by rw [kI]
theorem kI_str {s : Str} : isiB (.str s) "int" = some false := by rw [kI]
theorem kI_tup {l : List D} : isiB (.tup l) "int" = some false := by rw [kI]
theorem kI_lst {l : List D} : isiB (.lst l) "int" = some false := by rw [kI]
theorem kI_dct : isiB .dct "int" = some false := by rw [kI]
theorem kI_dc0 : isiB .dc0 "int" = some false := by rw [kI]
theorem kB_non : isiB .non "bool" = some false := by rw [kB]
theorem kB_bl {b : Bool} : isiB (.bl b) "bool" = some true := by rw [kB]
theorem kB_int {i : Int} : isiB (.int i) "bool" = some false := by rw [kB]
theorem kB_str {s : Str} : isiB (.str s) "bool" = some false := by rw [kB]
theorem kB_tup {l : List D} : isiB (.tup l) "bool" = some false := by rw [kB]
theorem kB_lst {l : List D} : isiB (.lst l) "bool" = some false := by rw [kB]
theorem kB_dct : isiB .dct "bool" = some false := by rw [kB]
theorem kB_dc0 : isiB .dc0 "bool" = some false := by rw [kB]
theorem kT_non : isiB .non "tuple" = some false := by rw [kT]
theorem kT_bl {b : Bool} : isiB (.bl b) "tuple" = some false := by rw [kT]
theorem kT_int {i : Int} : isiB (.int i) "tuple" = some false := by rw [kT]
theorem kT_str {s : Str} : isiB (.str s) "tuple" = some false := by rw [kT]
theorem kT_tup {l : List D} : isiB (.tup l) "tuple" = some true := by rw [kT]
theorem kT_lst {l : List D} : isiB (.lst l) "tuple" = some false := by rw [kT]
theorem kT_dct : isiB .dct "tuple" = some false := by rw [kT]
theorem kT_dc0 : isiB .dc0 "tuple" = some false := by rw [kT]
theorem kS_non : isiB .non "str" = some false := by rw [kS]
theorem kS_bl {b : Bool} : isiB (.bl b) "str" = some false := by rw [kS]
theorem kS_int {i : Int} : isiB (.int i) "str" = some false := by rw [kS]
theorem kS_str {s : Str} : isiB (.str s) "str" = some true := by rw [kS]
theorem kS_tup {l : List D} : isiB (.tup l) "str" = some false := by rw [kS]
theorem kS_lst {l : List D} : isiB (.lst l) "str" = some false := by rw [kS]
theorem kS_dct : isiB .dct "str" = some false := by rw [kS]
theorem kS_dc0 : isiB .dc0 "str" = some false := by rw [kS]
end Ly

namespace Ly
open PySem PySem.Spec PyProof.Rows L2
section
variable {K : PySem.W.Frag} {B : Bs}
/-! ### sorted -/
def keyOfD (d : D) : List (Int ⊕ List Nat) := match toPy d with
  | some p => PySem.W.keyToks p
  | none => []
def leD (x y : D) : Bool := PySem.W.sortLe (listOrd itemOrd) false keyOfD x y
def sortD (l : List D) : List D := l.mergeSort leD
def gSorted : G1 := fun rs R => ∃ r l ps, rs = [r] ∧ listOf r = some l ∧ toPys l = some ps ∧ PySem.W.AllAlike ps ∧ (PySem.W.Sortable ps ∨ PySem.W.SortableM ps) ∧ (∀ p ∈ ps, p.depth ≤ 60) ∧ R (.new (sortD l))
theorem rep_each {G : Gh} {H : Hp} : ∀ {vs : List V} {ds : List D} {ps : List PyData}, RepL K G H vs ds → toPys ds = some ps → PySem.W.EachIs (fun (q : V × PyData) d => Rep K G H q.1 d ∧ PySem.W.keyToks q.2 = keyOfD d) (vs.zip ps) ds
  | _, _, _, .nil, e => by cases e; exact .nil
  | _, _, _, .cons (d := d) (ds := ds) r t, e => by
    simp only [toPys] at e
    cases h1 : toPy d with
    | none => rw [h1] at e; cases e
    | some x =>
      cases h2 : toPys ds with
      | none => rw [h1, h2] at e; cases e
      | some y =>
        rw [h1, h2] at e
        cases e
        exact .cons ⟨r, by unfold keyOfD; rw [h1]⟩ (rep_each t h2)
theorem each_rep {G : Gh} {H : Hp} {P : V × PyData → D → Prop} : ∀ {qs : List (V × PyData)} {ds : List D}, PySem.W.EachIs (fun (q : V × PyData) d => Rep K G H q.1 d ∧ P q d) qs ds → RepL K G H (qs.map Prod.fst) ds
  | _, _, .nil => .nil
  | _, _, .cons h t => .cons h.1 (each_rep t)
theorem dpAll_len {H : Hp} : ∀ {vs : List V} {ps : List PyData}, DpAll K H vs ps → vs.length = ps.length
  | _, _, .nil => rfl
  | _, _, .cons _ t => by rw [List.length_cons, List.length_cons, dpAll_len t]
theorem snd_sorted : SndC K B gSorted (rSortD K) := by
  rintro G H σ ρ n τ vs rs R Q e hl ⟨r, l, ps, rfl, hr, hp, h1, h2, h3, hR⟩ k
  obtain ⟨v, rfl⟩ := len1 hl
  have e : EnvOk K B.1 B.2 G H σ ρ n (τ ++ [(v, r)]) := e
  obtain ⟨a, ws, rfl, sq, rl⟩ := tmp_list e.top hr
  refine ⟨a, ws, ps, rfl, SqL.of sq, RepL.dp rl hp, h1, h2, h3, fun p' hn => k _ _ _ _ hR (e.pop.pushNew hn ?_)⟩
  refine each_rep (P := fun q d => PySem.W.keyToks q.2 = keyOfD d) (PySem.W.sort_each (rep_each rl hp) fun x hx y hy => ?_)
  have z1 := (((rep_each rl hp).zip x hx).2)
  have z2 := (((rep_each rl hp).zip y hy).2)
  unfold keyLeP leD PySem.W.sortLe
  dsimp only
  rw [z1, z2]
/-! ### in, not in -/
def rInQ (K : PySem.W.Frag) (neg : Bool) : R2 := fun x y H Q => ∃ d ds, Dp K H x d ∧ (Dp K H y (.list ds) ∨ Dp K H y (.tuple ds)) ∧ SeqAt.shaped d = true ∧ SeqAt.shaped (.list ds) = true ∧ Q (.bl (xor neg (ds.any fun z => PyData.eqv z d))) H
theorem op_inQ {X : Cx} (hu : X.A.units + 65 < cLine) : OpR X (compareOp .In) (rInQ X.K false) := by
  intro pins s σ H x y v u Q I rx ry h
  obtain ⟨d, ds, hd, he, sd, se, q⟩ := h
  rw [Bool.false_xor] at q
  obtain ⟨as, r1⟩ := Dp.reads I d x v hd rx
  have c1 := SeqAt.canLay_of_shaped se
  have c2 := SeqAt.canLay_of_shaped sd
  rcases he with he | he
  · obtain ⟨bs, r2⟩ := Dp.reads I (.list ds) y u he ry
    exact SeqAt.in_list_reads r2 r1 c1 c2 (room_in_shaped sd hu) ⟨.bl _, H, I, rfl, q⟩
  · obtain ⟨bs, r2⟩ := Dp.reads I (.tuple ds) y u he ry
    exact SeqAt.in_tuple_reads r2 r1 c1 c2 (room_in_shaped sd hu) ⟨.bl _, H, I, rfl, q⟩
theorem op_ninQ {X : Cx} (hu : X.A.units + 65 < cLine) : OpR X (compareOp .NotIn) (rInQ X.K true) := by
  intro pins s σ H x y v u Q I rx ry h
  obtain ⟨d, ds, hd, he, sd, se, q⟩ := h
  rw [Bool.true_xor] at q
  obtain ⟨as, r1⟩ := Dp.reads I d x v hd rx
  have c1 := SeqAt.canLay_of_shaped se
  have c2 := SeqAt.canLay_of_shaped sd
  rcases he with he | he
  · obtain ⟨bs, r2⟩ := Dp.reads I (.list ds) y u he ry
    exact SeqAt.notIn_list_reads r2 r1 c1 c2 (room_in_shaped sd hu) ⟨.bl _, H, I, rfl, q⟩
  · obtain ⟨bs, r2⟩ := Dp.reads I (.tuple ds) y u he ry
    exact SeqAt.notIn_tuple_reads r2 r1 c1 c2 (room_in_shaped sd hu) ⟨.bl _, H, I, rfl, q⟩
def gIn (neg : Bool) : G2 := fun r1 r2 R => ∃ p l ps, toPy (dOf r1) = some p ∧ seqOf r2 = some l ∧ toPys l = some ps ∧ SeqAt.shaped p = true ∧ SeqAt.shaped (.list ps) = true ∧ R (.val (.bl (xor neg (ps.any fun z => PyData.eqv z p))))
theorem snd_in {neg : Bool} : SndO K B (gIn neg) (rInQ K neg) := by
  intro G H σ ρ n τ v1 v2 r1 r2 R Q e hg k
  obtain ⟨p, l, ps, h1, h2, h3, h4, h5, hR⟩ := hg
  obtain ⟨a, vs, rfl, sq, rl⟩ := tmp_seq e.top h2
  refine ⟨p, ps, e.top2.dp h1, ?_, h4, h5, k _ _ _ _ hR (e.pop.pop.pushV (.bl _))⟩
  rcases sq with sq | sq
  · exact .inl (.lst sq (RepL.dp rl h3))
  · exact .inr (.tup sq (RepL.dp rl h3))
end
section
variable {X : Cx} {B : Bs} {a b e : Expr} {es : List Expr} {pos p : Pos} {wa wb : TD} {ws : TDA} {x : Str}
theorem de_in (hu : X.A.units + 65 < cLine) (ha : DE X B a wa) (hb : DE X B b wb) (hm : behindInMarks .In b = false := by rfl) : DE X B (.Compare a [.In] [b] pos) (wOp (gIn false) wa wb) := de_cmp snd_in (op_inQ hu) ha hb hm
theorem de_nin (hu : X.A.units + 65 < cLine) (ha : DE X B a wa) (hb : DE X B b wb) (hm : behindInMarks .NotIn b = false := by rfl) : DE X B (.Compare a [.NotIn] [b] pos) (wOp (gIn true) wa wb) := de_cmp snd_in (op_ninQ hu) ha hb hm
theorem dt_in (hu : X.A.units + 65 < cLine) (ha : DE X B a wa) (hb : DE X B b wb) (hm : behindInMarks .In b = false := by rfl) : DT X B (.Compare a [.In] [b] pos) (wTst (wOp (gIn false) wa wb)) := dt_cmp snd_in (op_inQ hu) ha hb hm
theorem dt_nin (hu : X.A.units + 65 < cLine) (ha : DE X B a wa) (hb : DE X B b wb) (hm : behindInMarks .NotIn b = false := by rfl) : DT X B (.Compare a [.NotIn] [b] pos) (wTst (wOp (gIn true) wa wb)) := dt_cmp snd_in (op_ninQ hu) ha hb hm
/-! ### in a tuple of texts that the top holds -/
structure GTup (K : PySem.W.Frag) (mg : Str → Option Value) (x : Str) (ss : List Str) : Prop where
  ex : ∃ q, mg x = some (.ref q) ∧ ∀ H, Dp K H (.ref q) (.tuple (ss.map .str))
  ok : SeqAt.shaped (.list (ss.map PyData.str)) = true
def wInG (neg : Bool) (ss : List Str) (w : TD) : TD := fun ρ n Q => w ρ n fun r ρ1 n1 => ∃ p, toPy (dOf r) = some p ∧ SeqAt.shaped p = true ∧ Q (.val (.bl (xor neg ((ss.map PyData.str).any fun z => PyData.eqv z p)))) ρ1 n1
theorem tInG_of {K : PySem.W.Frag} {neg : Bool} {ss : List Str} {q : Addr} (hk : ∀ H, Dp K H (.ref q) (.tuple (ss.map .str))) (hs : SeqAt.shaped (.list (ss.map PyData.str)) = true) {σ : L2.St} {H : Hp} {Q : VK} (h : tD K B (wInG neg ss wa) σ H Q) : tOp (rInQ K neg) (tD K B wa) (tC (.ref q)) σ H Q := by
  obtain ⟨G, ρ, n, τ, Q', e, hw, k⟩ := h
  exact ⟨G, ρ, n, τ, _, e, hw, fun r ρ1 n1 v G1 H1 ⟨d, h1, h2, h3⟩ e1 => ⟨d, _, e1.top.dp h1, .inr (hk H1), h2, hs, k _ _ _ _ _ _ h3 (e1.pop.pushV (.bl _))⟩⟩
theorem de_inG {ss : List Str} (hu : X.A.units + 65 < cLine) (T : GTup X.K X.mg x ss) (hg : Gl X x) (ha : DE X B a wa) (hd : (x == ("__debug__" : Str)) = false := by decide) (hm : behindInMarks .In (.Name x p) = false := by rfl) : DE X B (.Compare a [.In] [.Name x p] pos) (wInG false ss wa) := by
  obtain ⟨q, h1, h2⟩ := T.ex
  exact PE.imp (pe_cmpR (op_inQ hu) ha (pe_glob (v := .ref q) hg h1 rfl hd) hm) fun _ _ _ h => tInG_of h2 T.ok h
theorem de_ninG {ss : List Str} (hu : X.A.units + 65 < cLine) (T : GTup X.K X.mg x ss) (hg : Gl X x) (ha : DE X B a wa) (hd : (x == ("__debug__" : Str)) = false := by decide) (hm : behindInMarks .NotIn (.Name x p) = false := by rfl) : DE X B (.Compare a [.NotIn] [.Name x p] pos) (wInG true ss wa) := by
  obtain ⟨q, h1, h2⟩ := T.ex
  exact PE.imp (pe_cmpR (op_ninQ hu) ha (pe_glob (v := .ref q) hg h1 rfl hd) hm) fun _ _ _ h => tInG_of h2 T.ok h
theorem dt_inG {ss : List Str} (hu : X.A.units + 65 < cLine) (T : GTup X.K X.mg x ss) (hg : Gl X x) (ha : DE X B a wa) (hd : (x == ("__debug__" : Str)) = false := by decide) (hm : behindInMarks .In (.Name x p) = false := by rfl) : DT X B (.Compare a [.In] [.Name x p] pos) (wTst (wInG false ss wa)) := by
  obtain ⟨q, h1, h2⟩ := T.ex
  exact PT.imp (pt_cmpR (op_inQ hu) ha (pe_glob (v := .ref q) hg h1 rfl hd) hm) fun _ _ _ h => tTest_of (fun _ _ _ h => tInG_of h2 T.ok h) h
theorem dt_ninG {ss : List Str} (hu : X.A.units + 65 < cLine) (T : GTup X.K X.mg x ss) (hg : Gl X x) (ha : DE X B a wa) (hd : (x == ("__debug__" : Str)) = false := by decide) (hm : behindInMarks .NotIn (.Name x p) = false := by rfl) : DT X B (.Compare a [.NotIn] [.Name x p] pos) (wTst (wInG true ss wa)) := by
  obtain ⟨q, h1, h2⟩ := T.ex
  exact PT.imp (pt_cmpR (op_ninQ hu) ha (pe_glob (v := .ref q) hg h1 rfl hd) hm) fun _ _ _ h => tTest_of (fun _ _ _ h => tInG_of h2 T.ok h) h
theorem eqv_str (s : Str) (d : D) {p : PyData} (h : toPy d = some p) : PyData.eqv (.str s) p = (match d with | .str x => s == x | _ => false) := by
  cases d <;> simp [toPy] at h <;> first | (subst h; rfl) | (obtain ⟨_, _, rfl⟩ := h; rfl)
def isStrIn (ss : List Str) (d : D) : Bool := match d with
  | .str x => decide (x ∈ ss)
  | _ => false
theorem any_strs {ss : List Str} {d : D} {p : PyData} (h : toPy d = some p) : ((ss.map PyData.str).any fun z => PyData.eqv z p) = isStrIn ss d := by
  rw [List.any_map]
  have e : ((fun z => PyData.eqv z p) ∘ PyData.str) = fun s => (match d with | .str x => s == x | _ => false) := funext fun s => eqv_str s d h
  rw [e]
  unfold isStrIn
  cases d <;> simp
  rename_i x
  rw [Bool.eq_iff_iff]
  simp
/-! ### l.extend(..) -/
def wExt (i : Nat) (w : TD) : TD := fun ρ n Q => (∃ l, ρ[i]? = some (.own l)) ∧ w ρ n fun r ρ1 n1 => ∃ l m, ρ1[i]? = some (.own l) ∧ listOf r = some m ∧ l.length + m.length ≤ sizeLine ∧ Q (.val .non) (ρ1.set i (.own (l ++ m))) n1
theorem de_ext {i : Nat} (h : PE X e (tBM X.K "list" rExtend (tVar i) (tCons (tD X.K B wa) tNil))) : DE X B e (wExt i wa) :=
  PE.imp h fun σ H Q ⟨G, ρ, n, τ, Q', e, ⟨⟨l, hl⟩, hw⟩, k⟩ => by
    obtain ⟨p, vs, ev, g, hp, rl⟩ := own_at e hl
    refine ⟨_, ev, .inl ⟨rfl, _, SqL.of hp⟩, G, ρ, n, τ, _, e, hw, fun r ρ1 n1 v G1 H1 ⟨l1, m, hl1, hm, hz, h1⟩ e1 => ?_⟩
    obtain ⟨b, zs, rfl, hb, rb⟩ := tmp_list e1.top hm
    obtain ⟨p', ws, ev', g', hp', rl'⟩ := own_at e1.pop hl1
    rw [ev] at ev'
    cases ev'
    obtain ⟨x3, e3⟩ := EnvOk.mutate e1.pop hl1 ev g' hp' (rl'.append rb)
    exact ⟨p, b, ws, zs, rfl, rfl, hp', hb, by rw [rl'.length, rb.length]; exact hz, k _ _ _ _ _ _ h1 (e3.pushV .non)⟩
/-! ### [..] * k -/
def gRepL : G2 := fun r1 r2 R => ∃ l k, listOf r1 = some l ∧ r2 = .val (.int k) ∧ 0 ≤ k ∧ k ≤ 1000 ∧ l.length ≤ 1000 ∧ R (.new (List.replicate k.toNat l).flatten)
theorem snd_repL {K : PySem.W.Frag} : SndO K B gRepL rRep := by
  intro G H σ ρ n τ v1 v2 r1 r2 R Q e hg k
  obtain ⟨l, j, h1, rfl, h2, h3, h4, hR⟩ := hg
  have t := e.topV
  cases t
  obtain ⟨a, vs, rfl, ha, rl⟩ := tmp_list e.top2 h1
  refine ⟨a, j, vs, rfl, rfl, ha, by omega, by omega, ?_, fun p hp => k _ _ _ _ hR (e.pop.pop.pushNew hp (rl.rep _))⟩
  rw [rl.length]
  have : l.length * j.toNat ≤ 1000 * 1000 := Nat.mul_le_mul h4 (by omega)
  exact Nat.le_trans this (by decide)
theorem de_repL (ha : DE X B a wa) (hb : DE X B b wb) : DE X B (.BinOp a .Mult b pos) (wOp gRepL wa wb) := de_op snd_repL op_rep ha hb
/-! ### str(a whole number) -/
def gStrI : G1 := fun rs R => ∃ i, rs = [.val (.int i)] ∧ i.natAbs < 10 ^ 500 ∧ R (.val (.str (toString i)))
theorem snd_strI {K : PySem.W.Frag} : SndC K B gStrI (fun xs H Q => ∃ i, xs = [.int i] ∧ i.natAbs.log2 < 1920 ∧ Q (.str (toString i)) H) := by
  rintro G H σ ρ n τ vs rs R Q e hl ⟨i, rfl, hi, hR⟩ k
  obtain ⟨v, rfl⟩ := len1 hl
  have e : EnvOk K B.1 B.2 G H σ ρ n (τ ++ [(v, .val (.int i))]) := e
  have t := e.topV
  cases t
  have h3 : (10 : Nat) ^ 500 ≤ 2 ^ 1920 := by decide +kernel
  refine ⟨i, rfl, ?_, k _ _ _ _ hR (e.pop.pushV (.str _))⟩
  by_cases z : i.natAbs = 0
  · rw [z]; decide
  · exact (Nat.log2_lt z).mpr (Nat.lt_of_lt_of_le hi h3)
/-! ### f(k = .., ..) -/
def pick {α : Type} (ix : List Nat) (l : List α) : List α := ix.filterMap fun i => l[i]?
theorem pick_vals {ix : List Nat} {zs : List V} {ws : List Value} (h : Vals zs ws) : Vals (pick ix zs) (pick ix ws) := by
  unfold pick
  induction ix with
  | nil => exact .nil
  | cons i ix ih =>
    rw [List.filterMap_cons, List.filterMap_cons]
    have e : (∃ z u, zs[i]? = some z ∧ ws[i]? = some u ∧ RelV z u) ∨ (zs[i]? = none ∧ ws[i]? = none) := by
      clear ih
      induction h generalizing i with
      | nil => exact .inr ⟨rfl, rfl⟩
      | cons r _ ih2 => cases i with
        | zero => exact .inl ⟨_, _, rfl, rfl, r⟩
        | succ i => exact ih2 i
    rcases e with ⟨z, u, e1, e2, r⟩ | ⟨e1, e2⟩
    · rw [e1, e2]; exact .cons r ih
    · rw [e1, e2]; exact ih
structure KB0 (K : PySem.W.Frag) (fd : FuncData) (ps ks : List Str) (ix : List Nat) : Prop where
  to : ∀ (s : Shared) (ws : List Value), K.In s.heap → ws.length = ps.length → BindsTo s fd ⟨[], ks.zip ws⟩ (ps.zip (pick ix ws))
  ln : ∀ ws : List Value, ws.length = ps.length → (pick ix ws).length = ps.length
theorem kb_of {K : PySem.W.Frag} {x qual : Str} {st : Stmt} {f : Addr} {fd : FuncData} {ps ks : List Str} {ix : List Nat} (F : Fun K x qual st f fd)
    (h : ∀ (kV doc pm : Value) (an : Option Addr) (cdv ct : Value) (ws : List Value), ws.length = ps.length → bindArgs (PySem.W.fnOf x qual (defArgs st) (defBody st) (defScope st) .none kV doc pm an cdv ct) ⟨[], ks.zip ws⟩ = pure (ps.zip (pick ix ws)))
    (hl : ∀ ws : List Value, ws.length = ps.length → (pick ix ws).length = ps.length) : KB0 K fd ps ks ix := by
  obtain ⟨oc, od, kV, doc, pm, an, cdv, ct, osl, rfl, lk, hcd⟩ := F.ex
  exact ⟨fun s ws _ hw => .of_eq (h kV doc pm an cdv ct ws hw), hl⟩
def tCallK0 (sp : Sp) (m : Nat) (ix : List Nat) (E : XK) (tk : TA) : TE := fun σ H Q => tk σ H fun zs H2 => zs.length = m ∧ sp (pick ix zs) H2 Q E
theorem pe_callK0 {CX : CXT} {k m : Nat} {f : Addr} {fd : FuncData} {ps ks : List Str} {ix : List Nat} {sp : Sp} {E : XK} {kws : List Keyword} {tk : TA} (F : FnOk X.prog X.w X.K X.mg X.base CX k f fd ps sp) (hr : Room k X.A) (hg : Gl X x) (hm : X.mg x = some (.ref f)) (hk : PySem.W.keepIn X.K (.ref f) = true)
    (hb : KB0 X.K fd ps ks ix) (hpm : ps.length = m) (hx : Passes CX X E) (hkw : PK X kws tk) (hall : (backToKw pos (keywordEach kws X.env)).all (·.1.isSome) = true := by rfl) (hks : (backToKw pos (keywordEach kws X.env)).filterMap (·.1) = ks := by rfl)
    (hdb : (x == ("__debug__" : Str)) = false := by decide) (hpl : ((backTo pos (starEach [] X.env)).any (·.1) || (backToKw pos (keywordEach kws X.env)).any (·.1.isNone)) = false := by rfl) :
    PE X (.Call (.Name x p) [] kws pos) (tCallK0 sp m ix E tk) := by
  refine ⟨fun pins s σ H Q I h => ?_⟩
  refine wpAny_Call_Name_kw (ld_glob I hg hm ?_ hdb)
  refine PySem.W.callWith_KW0 (h₀ := X.base) I.ok.mod.kin hk hall ?_ hpl
  refine thn (hkw.run pos pins s σ H _ I h) fun ws s2 ⟨zs, H2, I2, rz, hz, q2⟩ => ⟨I2.kIn, ?_⟩
  rw [hks]
  have hw : ws.length = ps.length := by rw [← Paired.length rz, hz, hpm]
  show wpAny _ _ (call (.ref f) [] (ks.zip ws)) _ _ _
  refine wpAny_call (codeAny_mono (F.run X.A X.stack s2 H2 ⟨[], ks.zip ws⟩ (pick ix ws) (pick ix zs) Q E hr I2.env0 (hb.to s2 ws I2.kIn hw) (pick_vals rz) q2) fun r s' hq => ?_)
  cases r with
  | error e => exact hx pins σ H2 s2 e s' I2 hq
  | ok fl =>
    cases fl with
    | ret u => exact I2.after hq
    | next => exact False.elim hq
    | brk => exact False.elim hq
    | cont => exact False.elim hq
abbrev DK (X : Cx) (B : Bs) (kws : List Keyword) (w : TDA) : Prop := PK X kws (tDA X.K B w)
theorem PK.imp {kws : List Keyword} {t t' : TA} (h : PK X kws t) (i : ∀ σ H Q, t' σ H Q → t σ H Q) : PK X kws t' := ⟨fun pos pins s σ H Q I q => h.run pos pins s σ H Q I (i _ _ _ q)⟩
theorem dk_nil : DK X B [] wNil := PK.imp pk_nil fun σ H Q ⟨G, ρ, n, τ, Q', e, hw, k⟩ => k _ _ _ [] _ _ hw rfl (by simpa using e)
theorem dk_cons {kws : List Keyword} {nm : Option Str} {kpos : Pos} (ha : DE X B e wa) (hr : DK X B kws ws) : DK X B (⟨nm, e, kpos⟩ :: kws) (wCons wa ws) :=
  PK.imp (pk_cons ha hr) fun σ H Q ⟨G, ρ, n, τ, Q', e, hw, k⟩ =>
    ⟨G, ρ, n, τ, _, e, hw, fun r ρ' n' v G' H' h1 e1 => ⟨G', ρ', n', τ ++ [(v, r)], _, e1, h1, fun rs ρ2 n2 vs G2 H2 h2 hl e2 => k _ _ _ (v :: vs) _ _ h2 (by rw [List.length_cons, List.length_cons, hl]) (by
      rw [List.zip_cons_cons, List.append_cons]; exact e2)⟩⟩
theorem pick_rep {K : PySem.W.Frag} {G : Gh} {H : Hp} {ix : List Nat} {vs : List V} {ds : List D} (h : RepL K G H vs ds) : RepL K G H (pick ix vs) (pick ix ds) := by
  unfold pick
  induction ix with
  | nil => exact .nil
  | cons i ix ih =>
    rw [List.filterMap_cons, List.filterMap_cons]
    cases e : vs[i]? with
    | none =>
      have : ds[i]? = none := by
        rw [List.getElem?_eq_none_iff] at e ⊢
        rw [← h.length]; exact e
      rw [this]; exact ih
    | some v =>
      obtain ⟨d, e2, r⟩ := h.getV e
      rw [e2]; exact .cons r ih
def wCallK (m : Nat) (c : Ctr) (ix : List Nat) (ws : TDA) : TD := fun ρ n Q => ws ρ n fun rs ρ1 n1 => rs.length = m ∧ c (pick ix (rs.map dOf)) n1 fun d n2 => Q (.val d) ρ1 n2
theorem de_callK {m : Nat} {c : Ctr} {ix : List Nat} {E : XK} (hix : ∀ l : List D, l.length = m → (pick ix l).length = m) (h : PE X e (tCallK0 (spC X.K m c) m ix E (tDA X.K B ws))) : DE X B e (wCallK m c ix ws) :=
  PE.imp h fun σ H Q ⟨G, ρ, n, τ, Q', e, hw, k⟩ => ⟨G, ρ, n, τ, _, e, hw, fun rs ρ1 n1 vs G1 H1 ⟨hm, h1⟩ hl e1 => by
    obtain ⟨G2, x2, e2, rl⟩ := EnvOk.freezeAll rs vs τ G1 hl e1
    obtain ⟨g0, x3⟩ := e2.out
    refine ⟨by rw [hl, hm], outG G2, pick ix (rs.map dOf), n1, _, g0, hix _ (by rw [List.length_map, hm]), pick_rep (rl.mono x3), h1, fun d n2 v G' H' h2 gr bg fh rv => ?_⟩
    obtain ⟨e3, x4⟩ := e2.back gr bg fh
    exact k _ _ _ _ _ _ h2 (e3.pushV (rv.mono x4))⟩
end
end Ly
namespace Ly
open PySem PySem.Spec PyProof.Rows L2
/-! ### an empty dict that stays so -/
def wDc0 : TD := fun ρ n Q => Q (.val .dc0) ρ n
theorem de_dc0 {X : Cx} {B : Bs} {e : Expr} (h : PE X e tDNewK) : DE X B e wDc0 := PE.imp h fun σ H Q ⟨G, ρ, n, τ, Q', e, hw, k⟩ => fun p hp =>
  k _ _ _ _ _ _ hw ((e.alloc hp (.dK []) .fro (by simp)).pushV (.dc0 updG_same upd_same))
/-! ### the call of a def that must not be called while something is being shown -/
section
variable {X : Cx} {B : Bs} {x : Str} {p pos : Pos} {e : Expr} {es : List Expr} {k : Nat} {f : Addr} {fd : FuncData} {ps : List Str} {sp : Sp} {t : TA} {ws : TDA}
theorem pe_callG (F : FnG X.prog X.w X.K X.mg X.base k f fd ps sp) (ga : X.A.guards = some []) (ln : ∀ vs H Q E, sp vs H Q E → vs.length = ps.length) (hr : Room k X.A) (hg : Gl X x) (hm : X.mg x = some (.ref f)) (hk : PySem.W.keepIn X.K (.ref f) = true) (hb : Binds X.K fd ps [])
    (ha : PA X (e :: es) t) (hdb : (x == ("__debug__" : Str)) = false := by decide) (he : starEach (e :: es) X.env = (false, eval e X.env) :: starEach es X.env := by rfl) (hpl : (backTo pos (starEach es X.env)).any (·.1) = false := by rfl) :
    PE X (.Call (.Name x p) (e :: es) [] pos) (tCall sp [] (fun _ _ _ => False) t) := by
  refine ⟨fun pins s σ H Q I h => ?_⟩
  refine wpAny_Call_Name_kw (ld_glob I hg hm ?_ hdb)
  refine PySem.W.callWith_K (h₀ := X.base) I.ok.mod.kin hk (thn (ha.run pos pins s σ H _ I h) fun us s1 ⟨vs, H1, I1, r, q⟩ => ⟨I1.kIn, ?_⟩) he hpl
  show wpAny _ _ (call (.ref f) us) _ _ _
  have q : sp (vs ++ []) H1 Q (fun _ _ _ => False) := q
  rw [List.append_nil] at q
  have hl : us.length = ps.length := by rw [← r.length]; exact ln _ _ _ _ q
  have b := hb s1 us I1.kIn (by rw [List.append_nil]; exact hl)
  rw [List.append_nil] at b
  refine wpAny_call (codeAny_mono (F.go X.A X.stack s1 H1 ⟨us, []⟩ us vs Q (fun _ _ _ => False) ga hr I1.env0 b r q) fun r s' hq => ?_)
  cases r with
  | error e => exact pass0 pins σ H1 s1 e s' I1 hq
  | ok fl =>
    cases fl with
    | ret u => exact I1.after hq
    | next => exact False.elim hq
    | brk => exact False.elim hq
    | cont => exact False.elim hq
theorem spC_len {K : PySem.W.Frag} {m : Nat} {c : Ctr} (hm : ps.length = m) : ∀ vs H Q E, spC K m c vs H Q E → vs.length = ps.length := fun vs H Q E ⟨G, ds, n, Q', g, hl, rl, _⟩ => by rw [rl.length, hl, hm]
end
/-! ### tuples of texts that the top holds -/
theorem vals_strs : ∀ {ss : List Str} {ts : List Tok} , ss.length = ts.length → Vals (ss.map V.str) (List.zipWith Value.str ss ts)
  | [], [], _ => .nil
  | _ :: _, t :: _, h => .cons ⟨t, rfl⟩ (vals_strs (by simpa using h))
theorem gtup_of {K : PySem.W.Frag} {h : Heap} {mg : Str → Option Value} {x : Str} {ss : List Str} {q : Addr} {od : Option Addr} {its : Array Value} {n : Nat} {sl : Array (Option Value)} (kin : K.In h) (G : h.Ns mainGlobals mg) (at_ : PySem.W.nsIn K mainGlobals x = some (some (.ref q)))
    (lk : K.lookup q = some ⟨.type "tuple", od, .seq its n, sl⟩) (hv : Vals (ss.map V.str) its.toList) (hz : its.size ≤ sizeLine) (ok : SeqAt.shaped (.list (ss.map PyData.str)) = true) : GTup K mg x ss := by
  refine ⟨⟨q, PySem.W.mg_of kin G at_, fun H => .tup (.inr ⟨_, its, n, lk, rfl, rfl, hz, hv⟩) ?_⟩, ok⟩
  clear hv ok
  induction ss with
  | nil => exact .nil
  | cons s ss ih => exact .cons (.str s) ih
end Ly
namespace Ly
open PySem PySem.Spec PyProof.Rows L2
theorem hu65_of {k : Nat} {A : Around} (hr : Room k A) : A.units + 65 < cLine := by have := hr.un; omega
theorem hu2_of {k : Nat} {A : Around} (hr : Room k A) : A.units + 2 < cLine := by have := hr.un; omega
end Ly
namespace Ly
open PySem PySem.Spec PyProof.Rows L2
/-! ### what can be sorted, as a check -/
def tupB : PyData → Bool
  | .tuple _ => true
  | _ => false
def tupNB : PyData → Bool
  | .tuple (_ :: _) => true
  | _ => false
def tupEB : PyData → Bool
  | .tuple [] => true
  | _ => false
def flatB : PyData → Bool
  | .none => false
  | .tuple _ => false
  | _ => true
def srtB (l : List D) : Bool := match toPys l with
  | some ps => (ps.all fun p => ps.all fun q => PySem.W.alike p q) && (ps.all tupNB || ps.all flatB || (ps.all tupB && ps.any tupEB && (match ps with | p :: _ => tupNB p | [] => false))) && ps.all fun p => decide (p.depth ≤ 60)
  | none => false
theorem srt_of {l : List D} (h : srtB l = true) : ∃ ps, toPys l = some ps ∧ PySem.W.AllAlike ps ∧ (PySem.W.Sortable ps ∨ PySem.W.SortableM ps) ∧ ∀ p ∈ ps, p.depth ≤ 60 := by
  unfold srtB at h
  split at h
  · rename_i ps e
    simp only [Bool.and_eq_true, Bool.or_eq_true, List.all_eq_true, List.any_eq_true, decide_eq_true_eq] at h
    obtain ⟨⟨h1, h2⟩, h3⟩ := h
    refine ⟨ps, e, fun d hd d' hd' => h1 d hd d' hd', ?_, h3⟩
    rcases h2 with (h2 | h2) | ⟨⟨h2, h4⟩, h5⟩
    · refine .inl (.inl fun d hd => ?_)
      have := h2 d hd
      unfold tupNB at this
      split at this
      · exact ⟨_, _, rfl⟩
      · cases this
    · refine .inl (.inr fun d hd => ?_)
      have := h2 d hd
      unfold flatB at this
      split at this
      · cases this
      · cases this
      · rename_i a b
        exact ⟨a, b⟩
    · refine .inr ⟨fun d hd => ?_, ?_, ?_⟩
      · have := h2 d hd
        unfold tupB at this
        split at this
        · exact ⟨_, rfl⟩
        · cases this
      · obtain ⟨d, hd, z⟩ := h4
        unfold tupEB at z
        split at z
        · exact hd
        · cases z
      · cases ps with
        | nil => cases h5
        | cons p r =>
          have h5 : tupNB p = true := h5
          unfold tupNB at h5
          split at h5
          · exact ⟨_, _, _, rfl⟩
          · cases h5
  · cases h
theorem sortD_eq {l : List D} (h : l.Pairwise (fun x y => leD x y = true)) : sortD l = l := List.mergeSort_of_pairwise h
/-- a sorted list of the same items is the sorted list -/
theorem sortD_of {l s : List D} (hp : s.Perm l) (hs : s.Pairwise (fun x y => leD x y = true)) (ha : ∀ x ∈ s, ∀ y ∈ s, leD x y = true → leD y x = true → x = y) : sortD l = s := by
  have tl := PySem.W.sortLe_total (listOrd itemOrd) false keyOfD
  have h1 : (sortD l).Pairwise (fun x y => leD x y = true) := by
    unfold sortD
    refine List.pairwise_mergeSort (le := leD) (fun a b c => tl.trans a b c) (fun a b => ?_) l
    rcases tl.total a b with z | z
    · exact Bool.or_eq_true _ _ ▸ .inl z
    · exact Bool.or_eq_true _ _ ▸ .inr z
  have h2 : (sortD l).Perm s := (List.mergeSort_perm l leD).trans hp.symm
  exact List.Perm.eq_of_pairwise (fun a b ha' hb' => ha a (h2.mem_iff.mp ha') b hb') h1 hs h2
theorem gSorted_of {r : RV} {l s : List D} {R : RV → Prop} (hl : listOf r = some l) (h : srtB l = true) (hs : sortD l = s) (q : R (.new s)) : gSorted [r] R := by
  obtain ⟨ps, h1, h2, h3, h4⟩ := srt_of h
  exact ⟨r, l, ps, rfl, hl, h1, h2, h3, h4, by rw [hs]; exact q⟩
end Ly

namespace Ly
open PySem PySem.Spec PyProof.Rows L2
theorem dp_ints {K : PySem.W.Frag} {H : Hp} : ∀ ns : List Int, DpAll K H (ns.map V.int) (ns.map PyData.int)
  | [] => .nil
  | _ :: r => .cons (.int _) (dp_ints r)
theorem lay_ints : ∀ ns : List Int, PyData.canLayAll0 (ns.map PyData.int) = true
  | [] => rfl
  | _ :: r => by simp only [List.map_cons, PyData.canLayAll0, PyData.canLay0, lay_ints r]; rfl
theorem dep_ints : ∀ ns : List Int, PyData.depthAll (ns.map PyData.int) = 0
  | [] => rfl
  | _ :: r => by simp only [List.map_cons, PyData.depthAll, PyData.depth, dep_ints r]; rfl
theorem shaped_ints (ns : List Int) : SeqAt.shaped (.list (ns.map PyData.int)) = true := by
  unfold SeqAt.shaped
  simp only [PyData.canLay0, PyData.depth, lay_ints, dep_ints]
  rfl
theorem eqv_nil (ns : List Int) : PyData.eqv (.list (ns.map PyData.int)) (.list []) = ns.isEmpty := by
  cases ns <;> simp [PyData.eqv, PyData.eqvAll]
theorem v_far {x y z : V} : valV [(kFar, x), (kStir, y), (kTurn, z)] kFar = some x := rfl
theorem v_stir {x y z : V} : valV [(kFar, x), (kStir, y), (kTurn, z)] kStir = some y := rfl
theorem v_turn {x y z : V} : valV [(kFar, x), (kStir, y), (kTurn, z)] kTurn = some z := rfl
theorem p_turn {x y z v : V} : putK [(kFar, x), (kStir, y), (kTurn, z)] kTurn v = [(kFar, x), (kStir, y), (kTurn, v)] := rfl
theorem p_stir {x y z v : V} : putK [(kFar, x), (kStir, y), (kTurn, z)] kStir v = [(kFar, x), (kStir, v), (kTurn, z)] := rfl
/-- behind a draw -/
theorem draw_fin {G : Gh} {H H' : Hp} {n : Nat} {a b : Addr} {far : List Int} {sr t : Int} {o1 : List Int} {kv : List (Key × V)} (g : G0Ok G H n) (ga : G a = .bagd b) (gb : G b = .bagl a)
    (ha0 : H a = some (.dK kv)) (hb0 : H b = some (.lst (o1.map V.int)))
    (keep : ∀ c o, H c = some o → c ≠ a → c ≠ b → H' c = some o) (ha : H' a = some (.dK [(kFar, .ref b), (kStir, .int sr), (kTurn, .int t)])) (hb : H' b = some (.lst (far.map V.int)))
    (hf : far.length ≤ 63) (h0 : 0 ≤ sr) (h1 : sr < 4294967291) (h2 : 0 ≤ t) (h3 : t ≤ n + 1) (nn : ∀ c, H' c = none → H c = none) :
    Gr G H G H' ∧ (∀ c d, G c = .bagd d → BagOk G H' (n + 1) c d) ∧ ∀ c, H' c = none → G c = .free := by
  refine ⟨⟨fun c o q q1 q2 => ⟨keep c o q (fun z => q1 b (z ▸ ga)) (fun z => q2 a (z ▸ gb)), rfl⟩, fun _ _ q => q, fun _ _ q => q, fun c xs q => keep c _ q (ne_of q ha0 (by simp)) (ne_of q hb0 (by simp)), fun c o u q => keep c _ q (ne_of q ha0 (by simp)) (ne_of q hb0 (by simp))⟩, fun c d q => ?_, fun c q => g.fh c (nn c q)⟩
  by_cases hc : c = a
  · subst hc
    rw [ga] at q
    cases q
    exact ⟨gb, far, sr, t, ha, hb, hf, h0, h1, h2, by omega⟩
  · obtain ⟨gd, far', s', t', hcc, hdd, z1, z2, z3, z4, z5⟩ := g.bg c d q
    have hcb : c ≠ b := fun z => by subst z; rw [gb] at q; cases q
    have hda : d ≠ a := fun z => by subst z; rw [ga] at gd; cases gd
    have hdb : d ≠ b := fun z => by subst z; rw [gb] at gd; cases gd; exact hc rfl
    exact ⟨gd, far', s', t', keep c _ hcc hc hcb, keep d _ hdd hda hdb, z1, z2, z3, z4, by omega⟩
end Ly

namespace Ly
open PySem PySem.Spec PyProof.Rows L2
/-! ### errors with one field: made, raised -/
/-- what an __init__ with one field keeps -/
def spI1 (K : PySem.W.Frag) (f : Str) : Sp := fun vs H Q _ => ∃ a C y, vs = [.ref a, y] ∧ OexC K C ∧ PySem.W.findIn K (.ref C) f = some none ∧ H a = some (exo a C none) ∧
  ∀ dx, H dx = none → dx ≠ a → Q .non (upd (upd H dx (exd dx [(f, y)])) a (exo a C (some dx)))
theorem ok_init1 {m : V} {fl g : Str} {P : Program} {w : World} {K : PySem.W.Frag} {mg : Str → Option Value} {base : Heap} {qual : Str} {st : Stmt} {f : Addr} {fd : FuncData} (F : Fun K "__init__" qual st f fd) (S : FnScope ["self", g] ["self", g] (defScope st))
    (hbody : ∀ (cdv : Value) (A : Around) (outer : List Env) (s : Shared) (H : Hp) (E : XK), Room 0 (A.deeper (envOfC qual (defScope st) s.heap.objs.size f cdv)) →
      PSs (cxOf CX0 P w K mg base ["self", g] qual (defScope st) f cdv A outer s H E).nox (defBody st) (tSeq (tDrop (tVeI K (tCons (tVar 0) (tCons (tC m) tNil)))) (tOst K fl (tVar 0) (tVar 1)))) : FnOk P w K mg base CX0 1 f fd ["self", g] (spI1 K fl) := by
  refine F.ok S (fun vs H Q E ⟨a, C, y, e, _⟩ => by rw [e]; rfl) (fun cdv A outer s H vs Q E hr ⟨a, C, y, e, T, hno, ha, q⟩ => ?_)
  subst e
  refine ⟨_, hbody cdv A outer s H E hr, .ref a, rfl, a, C, [m], rfl, by simp, T, ha, ?_⟩
  exact ⟨y, rfl, .ref a, rfl, a, C, rfl, T, hno, .inl ⟨ha, fun dx h1 h2 => q dx h1 h2⟩⟩
section
variable {X : Cx} {B : Bs} {e : Expr} {es : List Expr} {w : TD} {pos p np pos' : Pos} {W : WDt} {nm x n f : Str} {C fI : Addr} {i : Nat} {st : Stmt} {sts body suite : List Stmt} {b₀ : Stmt}
/-- raise C(e), C's __init__ keeping one field -/
def wRaiseF (W : WDt) (nm f : Str) (w : TD) : TDS := fun _ ρ n => w ρ n fun r ρ1 n1 => W (nm, [(f, dOf r)]) ρ1 n1
theorem upd_del {H : Hp} {a d : Addr} {o1 o2 o3 : HO} {u : HO} (ha : H a = none) (hn : d ≠ a) : upd (del (upd (upd (upd H a o1) d o2) a o3) a) d u = upd H d u := by
  funext c
  by_cases h1 : c = d
  · subst h1; rw [upd_same, upd_same]
  · rw [upd_ne h1, upd_ne h1]
    by_cases h2 : c = a
    · subst h2; rw [del_same, ha]
    · rw [del_ne h2, upd_ne h2, upd_ne h1, upd_ne h2]
theorem ds_raiseF (hc : X.calm = true) (tk : Takes X (tWX X.K X.mg B W)) (he : PMk X e (tMkO C (spI1 X.K f) [] (tDA X.K B (wCons w wNil)))) (T : OexC X.K C) (hno : PySem.W.findIn X.K (.ref C) f = some none) (hm : X.mg nm = some (.ref C)) :
    DS X B (.Raise (some e) none pos) (wRaiseF W nm f w) :=
  PS.imp (ps_raise hc tk he) fun D σ H ⟨G, ρ, n, τ, D', ev, hw, _⟩ => by
    refine ⟨G, ρ, n, τ, fun rs ρ1 n1 => (match rs with | [r] => W (nm, [(f, dOf r)]) ρ1 n1 | _ => False), ev, hw, ?_⟩
    intro rs ρ1 n1 vs G1 H1 h1 hl e1
    match rs, vs, h1, hl, e1 with
    | [r], [v], h1, _, e1 =>
      have e1 : EnvOk X.K B.1 B.2 G1 H1 σ ρ1 n1 (τ ++ [(v, r)]) := e1
      obtain ⟨G2, x2, e2⟩ := e1.freeze
      rw [frz_val] at e2
      have rv := e2.topV
      have e3 := e2.pop
      refine ⟨by simp, fun a ha => ⟨a, C, v, rfl, T, hno, upd_same, fun dx hd hne => ⟨rfl, dx, [(f, v)], upd_same, by rw [upd_ne hne, upd_same], ?_, ?_⟩⟩⟩
      · rw [upd_ne hne] at hd; exact hd
      · have hd1 : H1 dx = none := by rw [upd_ne hne] at hd; exact hd
        rw [upd_del ha hne]
        refine ⟨(nm, [(f, dOf r)]), ρ1, n1, _, τ, h1, e3.alloc hd1 (.xd [(f, v)]) .fro (by simp), hm, fun z => (by cases z), fun _ => ⟨dx, [(f, v)], rfl, updG_same, upd_same, rfl, .cons (rv.mono (Ext.alloc e3 hd1)) .nil⟩⟩
/-- try: body except C as n: suite -/
def wTryAs (i : Nat) (hs : Str → Option Bool) (Wout : WDt) (wb : WDt → TDS) (ws : Addr → Option Addr → Str → TDS) : TDS := fun D ρ n => wb (fun xd ρ' n' => ∃ b, hs xd.1 = some b ∧
  (b = true → ∀ a d, ws a d xd.1 { D with nx := fun ρ2 n2 => D.nx (ρ2.set i .un) n2, bk := fun ρ2 n2 => D.bk (ρ2.set i .un) n2, ct := fun ρ2 n2 => D.ct (ρ2.set i .un) n2 } (ρ'.set i (.err a d (xd.2.map (·.1)) (xd.2.map (·.2)))) n') ∧ (b = false → Wout xd ρ' n')) D ρ n
theorem EnvOk.setAny {K : PySem.W.Frag} {G0 G : Gh} {H0 H : Hp} {σ : L2.St} {ρ : List SV} {n : Nat} {τ : List (V × RV)} {o : Option V} {s : SV} (e : EnvOk K G0 H0 G H σ ρ n τ) (hs : SlotOk K G H (some o) i s) : EnvOk K G0 H0 G H (σ.set i o) (ρ.set i s) n τ :=
  ⟨e.gr, e.ns, e.nt, e.bg, e.fh, by rw [List.length_set, List.length_set]; exact e.ln, fun j s' h => by
    by_cases hj : j = i
    · subst hj
      have hl : j < ρ.length := by
        by_cases hl : j < ρ.length
        · exact hl
        · rw [List.getElem?_eq_none (by rw [List.length_set]; omega)] at h; cases h
      rw [List.getElem?_set_self hl] at h
      cases h
      rw [List.getElem?_set_self (by rw [← e.ln]; exact hl)]
      exact hs
    · rw [List.getElem?_set_ne (Ne.symm hj)] at h
      rw [List.getElem?_set_ne (Ne.symm hj)]
      exact e.sl j s' h, e.tm⟩
theorem ds_try_as {c : Value} {hs : Str → Option Bool} {Wout : WDt} {wb : WDt → TDS} {ws : Addr → Option Addr → Str → TDS} (hst : X.stack = X.env :: X.outer) (hf : X.env.frame = some X.env.locals) (hN : X.N.Nodup) (hi : X.N[i]? = some n) (hln : X.env.kindOf n = some .local) (hc : Names X x c) (tk : Takes X (tWX X.K X.mg B Wout))
    (hh : ∀ nm b cls, hs nm = some b → X.mg nm = some cls → PySem.W.exmOne X.K cls c = some b)
    (hb : ∀ (W : WDt) (pn : List (Addr × Obj)) (xe : Value → Shared → Prop), Takes (X.tr pn xe) (tWX X.K X.mg B W) → PassesOwn (model X.prog X.w) X.A X.env xe → DSs (X.tr pn xe) B body (wb W))
    (hsu : ∀ (a : Addr) (oe : Obj) (cls : Value) (d : Option Addr) (pn : List (Addr × Obj)) (nm : Str), Zc cls d oe → (∃ vs, oe.data = .fields vs) → X.mg nm = some cls → DSs (X.suite a ((a, oe) :: pn)) B (b₀ :: suite) (ws a d nm)) :
    DS0 X B (.Try body [.ExceptHandler (some (.Name x np)) (some n) (b₀ :: suite) pos'] [] [] pos) (wTryAs i hs Wout wb ws) := by
  refine PS.imp (ps_try_as (tb := fun W D σ H => ∃ Wd : WDt, (∀ cls dd σ H, tWX X.K X.mg B Wd cls dd σ H → W cls dd σ H) ∧ tDS X.K B (wb Wd) D σ H) (ts := fun a cls d D σ H => ∃ nm, X.mg nm = some cls ∧ tDS X.K B (ws a d nm) D σ H) hst hf hN hi hln hc tk (fun W pn xe tk' po => ?_) (fun a oe cls d pn hz hfv => ?_)) fun D σ H h => ?_
  · refine ⟨fun pins s σ H D I h => ?_⟩
    obtain ⟨Wd, hi, h⟩ := h
    exact (hb Wd pn xe (tk'.imp hi) po).run pins s σ H D I h
  · refine ⟨fun pins s σ H D I h => ?_⟩
    obtain ⟨nm, hm, h⟩ := h
    exact (hsu a oe cls d pn nm hz hfv hm).run pins s σ H D I h
  · obtain ⟨G, ρ, n, D', e, hw, k1, k2, k3, k4⟩ := h
    refine ⟨_, fun cls dd σ1 H1 h1 => ?_, G, ρ, n, [], D', e, hw, k1, k2, k3, k4⟩
    obtain ⟨xd, ρ1, n1, G1, τ1, ⟨b, hb1, hy, hn⟩, e1, hd⟩ := h1
    refine ⟨b, hh _ _ _ hb1 hd.1, fun hb2 a ha => ?_, fun hb2 => ?_⟩
    · have e2 : EnvOk X.K B.1 B.2 G1 H1 σ1 ρ1 n1 [] := EnvOk.pop (τ := []) e1
      have e3 : EnvOk X.K B.1 B.2 G1 H1 (σ1.set i (some (.ref a))) (ρ1.set i (.err a dd (xd.2.map (·.1)) (xd.2.map (·.2)))) n1 [] := e2.setAny ⟨rfl, fun z => hd.2.1 (List.map_eq_nil_iff.mp z), fun z => by
        obtain ⟨d', vs, h1, h2, h3, h4, h5⟩ := hd.2.2 (fun y => z (by rw [y]; rfl))
        exact ⟨d', vs, h1, h2, h3, h4, h5⟩⟩
      refine ⟨xd.1, hd.1, G1, _, n1, [], _, e3, hy hb2 a dd, fun σ' ρ' n' G' H' h2 e4 => k1 _ _ _ _ _ h2 (e4.setAny trivial), fun d n' v G' H' σ' ρ' h2 r2 e4 => ?_, fun σ' ρ' n' G' H' h2 e4 => k3 _ _ _ _ _ h2 (e4.setAny trivial), fun σ' ρ' n' G' H' h2 e4 => k4 _ _ _ _ _ h2 (e4.setAny trivial)⟩
      exact k2 d n' v G' H' σ' ρ' h2 r2 e4
    · exact ⟨xd, ρ1, n1, G1, τ1, hn hb2, e1, hd⟩
/-- a field of the caught error -/
def lookD : List Str → List D → Str → Option D
  | x :: xs, d :: ds, f => if f = x then some d else lookD xs ds f
  | _, _, _ => none
theorem lookD_rep {K : PySem.W.Frag} {G : Gh} {H : Hp} {f : Str} {d : D} : ∀ {vs : List (Str × V)} {nms : List Str} {ds : List D}, vs.map (·.1) = nms → RepL K G H (vs.map (·.2)) ds → lookD nms ds f = some d → ∃ v, vs.lookup f = some v ∧ Rep K G H v d
  | [], _, _, h1, _, h3 => by subst h1; cases h3
  | (x, v) :: vs, nms, [], h1, h2, h3 => by cases h2
  | (x, v) :: vs, nms, d' :: ds, h1, h2, h3 => by
    subst h1
    cases h2 with
    | cons r rl =>
      rw [List.map_cons] at h3
      unfold lookD at h3
      rw [List.lookup_cons]
      by_cases hf : f = x
      · rw [if_pos hf] at h3
        cases h3
        subst hf
        exact ⟨v, by simp, r⟩
      · rw [if_neg hf] at h3
        rw [show (f == x) = false from beq_false_of_ne hf]
        exact lookD_rep rfl rl h3
def wXf (a : Addr) (d : Option Addr) (nm nmC : Str) (i : Nat) (f : Str) : TD := fun ρ n Q => nm = nmC ∧ ∃ nms ds v, ρ[i]? = some (.err a d nms ds) ∧ lookD nms ds f = some v ∧ Q (.val v) ρ n
theorem de_xf {a : Addr} {oe : Obj} {cls : Value} {d : Option Addr} {pn : List (Addr × Obj)} {nm nmC f : Str} (T : XfC X.K C) (hno : PySem.W.findIn X.K (.ref C) f = some none) (hmC : X.mg nmC = some (.ref C)) (hz : Zc cls d oe) (hf : ∃ vs, oe.data = .fields vs) (hm : X.mg nm = some cls)
    (he : PE (X.suite a ((a, oe) :: pn)) e (tVar i)) (hb : attributeBase e f X.env (eval e X.env) = eval e X.env := by rfl) : DE (X.suite a ((a, oe) :: pn)) B (.Attribute e f pos) (wXf a d nm nmC i f) :=
  PE.imp (pe_xf T hno hz hf he hb) fun σ H Q ⟨G, ρ, n, τ, Q', ev, ⟨hnm, nms, ds, v, hs, hl, hw⟩, k⟩ => by
    subst hnm
    obtain ⟨eo, z0, h1⟩ := ev.sl i _ hs
    have hne : nms ≠ [] := fun z => by subst z; cases hl
    obtain ⟨dd, vs, h2, h3, h4, h5, h6⟩ := h1 hne
    obtain ⟨u, hu, ru⟩ := lookD_rep h5 h6 hl
    rw [hm] at hmC
    cases hmC
    exact ⟨_, eo, rfl, rfl, dd, vs, u, h2, h4, hu, k _ _ _ _ _ _ hw (ev.pushV ru)⟩
/-- isinstance(e, c), e the caught error, with or without fields -/
theorem call_isX {a D : Addr} {oe : Obj} {d : Option Addr} {pn : List (Addr × Obj)} (T : ExcC X.K D) (hz : Zc (.ref D) d oe) (hf : ∃ vs, oe.data = .fields vs) :
    CallR (X.suite a ((a, oe) :: pn)) (.builtin "isinstance") (fun xs H Q => ∃ (c : V) (cv : Value) (b : Bool), xs = [.ref a, c] ∧ (∀ u, RelV c u → u = cv) ∧ PySem.W.kitOne X.K (.ref D) cv = some b ∧ (∀ dd, d = some dd → ∃ vs, H dd = some (.xd vs)) ∧ Q (.bl b) H) := by
  intro pins s σ H xs us Q I r h
  obtain ⟨c, cv, b, rfl, hcv, e, hd, q⟩ := h
  match us, r with
  | [_, _], .cons rx (.cons rt .nil) =>
    cases rx
    have ec := hcv _ rt
    subst ec
    have hpin := (I.pin (a, oe) (List.mem_append.mpr (.inl List.mem_cons_self))).1
    obtain ⟨fs, hv⟩ := hf
    have J : ∃ od : Option Obj, PySem.W.InstAt s.heap a oe D od := by
      cases d with
      | none => exact ⟨none, hpin, hz.1, by unfold PySem.W.notCls; rw [hv] <;> rfl, by rw [hz.2]; trivial⟩
      | some dd =>
        obtain ⟨vs, hx⟩ := hd dd rfl
        obtain ⟨mA, hns, _⟩ := (show ObjOk X.prog X.w H s.heap dd (.xd vs) from I.hok dd _ hx)
        obtain ⟨od, ho, _⟩ := lookIn_ns hns
        exact ⟨some od, hpin, hz.1, by unfold PySem.W.notCls; rw [hv] <;> rfl, by rw [hz.2]; exact ho⟩
    obtain ⟨od, J⟩ := J
    have cl : (PySem.W.clsIn X.K D).isSome = true := by
      obtain ⟨cd, hc, _⟩ := PySem.W.any_some T.hd
      rw [hc]; rfl
    exact PySem.W.kia_one (PySem.W.kitx_exc cl T.hg T.hk T.hs T.ha T.hn T.ht T.hm) I.kIn J e (fun z => nomatch z) fun tk => ⟨.bl b, H, I.kept (t' := tk) fun _ _ z => z, rfl, q⟩
def wIsX (a : Addr) (d : Option Addr) (nm : Str) (hs : Str → Option Bool) (i : Nat) : TD := fun ρ n Q => ∃ nms ds b, ρ[i]? = some (.err a d nms ds) ∧ hs nm = some b ∧ Q (.val (.bl b)) ρ n
theorem de_isX {a : Addr} {oe : Obj} {cls : Value} {d : Option Addr} {pn : List (Addr × Obj)} {nm : Str} {hs : Str → Option Bool} {c : V} {cv : Value} {e2 : Expr} (hh : ∀ nm b cls, hs nm = some b → X.mg nm = some cls → ∃ D, cls = .ref D ∧ ExcC X.K D ∧ PySem.W.kitOne X.K (.ref D) cv = some b)
    (hz : Zc cls d oe) (hf : ∃ vs, oe.data = .fields vs) (hm : X.mg nm = some cls) (hg : Gl X "isinstance") (hmi : X.mg "isinstance" = none) (he : PE (X.suite a ((a, oe) :: pn)) e (tVar i)) (hc : PE (X.suite a ((a, oe) :: pn)) e2 (tC c)) (hcv : ∀ u, RelV c u → u = cv)
    (h1 : starEach (e :: [e2]) (X.suite a ((a, oe) :: pn)).env = (false, eval e (X.suite a ((a, oe) :: pn)).env) :: starEach [e2] (X.suite a ((a, oe) :: pn)).env := by rfl) (h2 : starEach (e2 :: []) (X.suite a ((a, oe) :: pn)).env = (false, eval e2 (X.suite a ((a, oe) :: pn)).env) :: starEach [] (X.suite a ((a, oe) :: pn)).env := by rfl)
    (h3 : (backTo pos (starEach [e2] (X.suite a ((a, oe) :: pn)).env)).any (·.1) = false := by rfl) :
    DE (X.suite a ((a, oe) :: pn)) B (.Call (.Name "isinstance" p) [e, e2] [] pos) (wIsX a d nm hs i) := by
  refine ⟨fun pins s σ H Q I h => ?_⟩
  obtain ⟨G, ρ, n, τ, Q', ev, ⟨nms, ds, b, hsl, hb, hw⟩, k⟩ := h
  obtain ⟨D, rfl, T, hk⟩ := hh _ _ _ hb hm
  obtain ⟨eo, z0, z1⟩ := ev.sl i _ hsl
  refine (pe_callB (X := X.suite a ((a, oe) :: pn)) (call_isX T hz hf) hg hmi (by rfl) (pa_cons he (pa_cons hc pa_nil h2) h1) (he := h1) (hpl := h3)).run pins s σ H Q I ?_
  refine ⟨_, eo, c, cv, b, rfl, hcv, hk, fun dd hdd => ?_, k _ _ _ _ _ _ hw (ev.pushV (.bl b))⟩
  have hne : nms ≠ [] := fun z => by rw [z0 z] at hdd; cases hdd
  obtain ⟨d2, vs, h2, h3, h4, _⟩ := z1 hne
  rw [hdd] at h2
  cases h2
  exact ⟨vs, h4⟩
/-- what isinstance asks of an error's class, as a test -/
def excB (K : PySem.W.Frag) (D : Addr) : Bool := decide (PySem.W.findIn K (.ref D) "__getattribute__" = some (some (.builtin "BaseException.__getattribute__"))) && (decide (PySem.W.findIn K (.ref D) "__getattr__" = some none) && (decide (PySem.W.subIn K (.ref D) (.type "BaseException") = some true) && (PySem.W.hasDictIn K D &&
  (decide (PySem.W.findIn K (.ref D) "__class__" = some (some (.builtin "object.__class__"))) && (decide (PySem.W.specialIn K (.builtin "object.__class__") "__get__" = some (some (.builtin "getset_descriptor.__get__"))) && (decide (PySem.W.takesIn K (.builtin "object.__class__") = some true) && decide (PySem.W.mroIn K D (.type "object") = some true)))))))
theorem excB_ok {K : PySem.W.Frag} {D : Addr} (h : excB K D = true) : ExcC K D := by
  unfold excB at h
  simp only [Bool.and_eq_true, decide_eq_true_eq] at h
  obtain ⟨h1, h2, h3, h4, h5, h6, h7, h8⟩ := h
  exact ⟨h1, h2, h3, h4, h5, h6, h7, h8⟩
theorem hi_nil {K : PySem.W.Frag} {mg : Str → Option Value} {cv : Value} : ∀ (nm : Str) (b : Bool) (cls : Value), (none : Option Bool) = some b → mg nm = some cls → ∃ D, cls = .ref D ∧ ExcC K D ∧ PySem.W.kitOne K (.ref D) cv = some b := fun _ _ _ h => by cases h
theorem hi_cons {K : PySem.W.Frag} {mg : Str → Option Value} {cv : Value} {nm0 : Str} {D0 : Addr} {b0 : Bool} {r : Str → Option Bool} (g : mg nm0 = some (.ref D0)) (z : ExcC K D0) (x : PySem.W.kitOne K (.ref D0) cv = some b0)
    (h : ∀ (nm : Str) (b : Bool) (cls : Value), r nm = some b → mg nm = some cls → ∃ D, cls = .ref D ∧ ExcC K D ∧ PySem.W.kitOne K (.ref D) cv = some b) :
    ∀ (nm : Str) (b : Bool) (cls : Value), (if nm = nm0 then some b0 else r nm) = some b → mg nm = some cls → ∃ D, cls = .ref D ∧ ExcC K D ∧ PySem.W.kitOne K (.ref D) cv = some b := fun nm b cls h1 h2 => by
  by_cases e : nm = nm0
  · subst e
    rw [if_pos rfl] at h1
    cases h1
    rw [g] at h2
    cases h2
    exact ⟨D0, rfl, z, x⟩
  · rw [if_neg e] at h1
    exact h nm b cls h1 h2
end
end Ly

namespace Ly
open PySem PySem.Spec PyProof.Rows L2
/-! ### several clauses, all with the one name -/
/-- what the clauses 'except C as n' wish of an exception, one after the other; slot i is n's -/
def wManyAs (K : PySem.W.Frag) (i : Nat) (Wout : WX) (D : Ends) : List (Value × (Addr → Value → Option Addr → TS)) → WX
  | [] => Wout
  | (c, ts) :: r => fun cls d σ H => ∃ b, PySem.W.exmOne K cls c = some b ∧
    (b = true → ∀ a, H a = none → ts a cls d { nx := fun σ' H' => D.nx (σ'.set i none) H', rt := D.rt, bk := fun σ' H' => D.bk (σ'.set i none) H', ct := fun σ' H' => D.ct (σ'.set i none) H' } (σ.set i (some (.ref a))) H) ∧ (b = false → wManyAs K i Wout D r cls d σ H)
inductive HdsAs (X : Cx) (n : Str) : List ExceptHandler → List (Value × (Addr → Value → Option Addr → TS)) → Prop
  | nil : HdsAs X n [] []
  | cons {x : Str} {c : Value} {ts : Addr → Value → Option Addr → TS} {b₀ : Stmt} {suite : List Stmt} {np pos' : Pos} {hds : List ExceptHandler} {l : List (Value × (Addr → Value → Option Addr → TS))} (hc : Names X x c)
      (hsu : ∀ (a : Addr) (oe : Obj) (cls : Value) (d : Option Addr) (pn : List (Addr × Obj)), Zc cls d oe → (∃ vs, oe.data = .fields vs) → PSs (X.suite a ((a, oe) :: pn)) (b₀ :: suite) (ts a cls d)) (r : HdsAs X n hds l) :
      HdsAs X n (.ExceptHandler (some (.Name x np)) (some n) (b₀ :: suite) pos' :: hds) ((c, ts) :: l)
section
variable {X : Cx} {n : Str} {i : Nat} {body : List Stmt} {h₀ : ExceptHandler} {hds : List ExceptHandler} {l : List (Value × (Addr → Value → Option Addr → TS))} {pos : Pos} {tb : WX → TS} {Wout : WX}
theorem ps_try_manyAs (hs : X.stack = X.env :: X.outer) (hf : X.env.frame = some X.env.locals) (hN : X.N.Nodup) (hi : X.N[i]? = some n) (hln : X.env.kindOf n = some .local) (tk : Takes X Wout)
    (hb : ∀ (W : WX) (pn : List (Addr × Obj)) (xe : Value → Shared → Prop), Takes (X.tr pn xe) W → PassesOwn (model X.prog X.w) X.A X.env xe → PSs (X.tr pn xe) body (tb W))
    (hh : HdsAs X n (h₀ :: hds) l) : PS X (.Try body (h₀ :: hds) [] [] pos) (fun D σ H => tb (wManyAs X.K i Wout D l) D σ H) := by
  refine ⟨fun pins s σ H D I h => ?_⟩
  have ok := I.ok
  have fr0 : X.A.frames = some (X.env :: X.outer) := by rw [ok.frames, hs]
  refine wpAny_Try_except (wpAny_mono ((hb (wManyAs X.K i Wout D l) (X.pn ++ pins) (fun e s₁ => wpAny (model X.prog X.w) X.A (noteFrame e X.env) (fun _ s₂ => wpAny (model X.prog X.w) X.A (setFlight e none) (fun _ s₃ =>
    wpAny (model X.prog X.w) X.A (handleBy e X.env (h₀ :: hds)) (SP X pins D) X.xe s₃) X.xe s₂) X.xe s₁) (fun u s' xx => ?_) PassesOwn.looking).run [] s σ H D (I.toTry _) h) (fun f s1 hsp => ?_) (fun e s1 he => he))
  · obtain ⟨a, B, sI, pins', σ', H', cls, d, rfl, J', nb, up, sky, na, os, ag, w⟩ := xx
    have J := J'.ofTry ok
    have skyE : Sky B (X.env :: X.outer) a (Zc cls d) X.env.locals s'.heap := by rw [← hs]; exact sky
    show wpAny (model X.prog X.w) X.A (noteFrame (.ref a) X.env) _ _ _
    refine Sky.land Zc.steady fr0 hf skyE fun h3 fl3 up3 => ?_
    have J3 : Inv X pins σ' H' { s' with heap := h3 } := J.landed nb fl3.1 (up.trans up3) os ag
    obtain ⟨oe3, vs3, he3, hz3, hd3⟩ := fl3.there
    have out : a ∉ frs (X.env :: X.outer) := fun hm => by
      obtain ⟨_, o', e', hnf⟩ := (fl3.2.2.1).mem hm
      rw [he3] at e'; cases e'
      exact hnf _ hd3
    have nL : a ≠ X.env.locals := fun z => out (List.mem_filterMap.mpr ⟨X.env, List.mem_cons_self, by rw [hf, z]⟩)
    have nF : a ∉ X.fs := fun hm => by
      obtain ⟨e, he, q⟩ := List.mem_filterMap.mp hm
      exact out (List.mem_filterMap.mpr ⟨e, List.mem_cons_of_mem _ he, q⟩)
    have S3 := J3.suite he3 hd3 na nL nF
    have go : ∀ {hd' : List ExceptHandler} {l' : List (Value × (Addr → Value → Option Addr → TS))}, HdsAs X n hd' l' → wManyAs X.K i Wout D l' cls d σ' H' →
        wpAny (model X.prog X.w) X.A (handleBy (.ref a) X.env hd') (SP X pins D) X.xe { s' with heap := h3 } := by
      intro hd' l' hk
      induction hk with
      | nil =>
        intro w
        refine wpAny_handleBy_nil ?_
        obtain ⟨_, _, _, oe, vs, T, oT, ts', he, hz, hd, h1, hr⟩ := id fl3
        unfold PySem.passOn
        refine wpAny_bind (wpAny_field he hd h1 ?_)
        rw [if_neg (show ¬ ((Value.ref T == Value.none) = true) from by simp)]
        have fin : wpAny (model X.prog X.w) X.A (setFlight (.ref a) X.env.frame) (fun _ s4 => wpAny (model X.prog X.w) X.A (throw (.ref a) : Sem Flow) (SP X pins D) X.xe s4) X.xe { s' with heap := h3 } := by
          rw [hf]
          refine HandSPX.setFlight_upZ fl3 fun h4 hh4 up4 => wpAny_throw (tk _ _ ?_)
          exact ⟨a, B, sI, pins, σ', H', cls, d, rfl, J, nb, (up.trans up3).trans up4, .inr (.inr (by rw [hs]; exact hh4)), na, os, ag, w⟩
        first
          | exact wpAny_bind (wpAny_pure (wpAny_bind fin))
          | exact wpAny_bind fin
      | @cons x c ts b₀ suite np pos' hds2 l2 hc hsu r ih =>
        intro w
        obtain ⟨b, hb1, hyes, hno⟩ := w
        refine wpAny_handleBy_cons (codeAny_handlers_test ?_) (by intro q; cases q)
        have LT : PySem.W.Looks (model X.prog X.w) h3 (typeOf (.ref a)) cls := fun A Q E s k q => wpAny_typeOf_ref (k _ _ he3) (by rw [hz3.1]; exact q)
        have LM := PySem.W.exm_one (M := model X.prog X.w) (J3.kIn) LT hb1
        have test : ∀ {Q : Value → Shared → Prop} {E : Value → Shared → Prop}, Q c { s' with heap := h3 } → wpAny (model X.prog X.w) (X.A.mark (some (.ref a))) (eval (.Name x np) X.env) Q E { s' with heap := h3 } := fun {Q E} q => by
          obtain ⟨hg, hdbg, hm | ⟨hm, hv, hnn⟩⟩ := hc
          · exact ld_glob (X := X.suite a ((a, oe3) :: (X.pn ++ pins))) S3 hg hm q hdbg
          · exact ld_blt (X := X.suite a ((a, oe3) :: (X.pn ++ pins))) S3 hg hm hv q hnn hdbg
        refine test (LM.here ?_)
        cases b with
        | false => exact ih (hno rfl)
        | true =>
          refine codeAny_handlers_suite_as (HandSPX.lands_againZ fl3 fun h4 fl4 up4 => ?_)
          have J4 : Inv X pins σ' H' { s' with heap := h4 } := J.landed nb fl4.1 ((up.trans up3).trans up4) os ag
          obtain ⟨oe4, vs4, he4, hz4, hd4⟩ := fl4.there
          have S4 := J4.suite he4 hd4 na nL nF
          refine store_ok (X := X.suite a ((a, oe4) :: (X.pn ++ pins))) (v := .ref a) S4 hN hi (.inl hln) rfl (fun s5 S5 => ?_) (.inr hln)
          refine wpAny_mono ((hsu a oe4 cls d (X.pn ++ pins) hz4 ⟨_, hd4⟩).run [] s5 _ H' _ S5 (hyes rfl a na)) (fun f s6 hsp => ?_) (fun _ _ z => False.elim z)
          have end_ : ∀ {σ6 : L2.St} {H6 : Hp} {Q : Shared → Prop}, Inv (X.suite a ((a, oe4) :: (X.pn ++ pins))) [] σ6 H6 s6 → (∀ s7, Inv X pins (σ6.set i none) H6 s7 → Q s7) →
              wpAny (model X.prog X.w) X.A (do bindName X.env n .none; unbindBehindTheSuite X.env n pos') (fun _ s7 => Q s7) X.xe s6 := fun {σ6 H6 Q} S6 hq => gone_ok (S6.unsuite ok) hN hi hln hq
          cases f with
          | ret u => obtain ⟨v6, σ6, H6, S6, r6, q6⟩ := hsp; exact end_ S6 fun s7 J7 => ⟨_, _, _, J7, r6, q6⟩
          | next => obtain ⟨σ6, H6, S6, q6⟩ := hsp; exact end_ S6 fun s7 J7 => ⟨_, _, J7, q6⟩
          | brk => obtain ⟨σ6, H6, S6, q6⟩ := hsp; exact end_ S6 fun s7 J7 => ⟨_, _, J7, q6⟩
          | cont => obtain ⟨σ6, H6, S6, q6⟩ := hsp; exact end_ S6 fun s7 J7 => ⟨_, _, J7, q6⟩
    exact go hh w
  · cases f with
    | next => obtain ⟨σ', H', J', q⟩ := hsp; exact wpAny_execs_nil ⟨σ', H', J'.ofTry ok, q⟩
    | brk => obtain ⟨σ', H', J', q⟩ := hsp; exact ⟨σ', H', J'.ofTry ok, q⟩
    | cont => obtain ⟨σ', H', J', q⟩ := hsp; exact ⟨σ', H', J'.ofTry ok, q⟩
    | ret u => obtain ⟨v, σ', H', J', r, q⟩ := hsp; exact ⟨v, σ', H', J'.ofTry ok, r, q⟩
end
section
variable {X : Cx} {B : Bs} {n x1 x2 : Str} {i : Nat} {body s1 s2 : List Stmt} {b1 b2 : Stmt} {np1 np2 po1 po2 pos : Pos}
/-- try: body; except C1 as n: ..; except C2 as n: .. -/
def wTryAs2 (i : Nat) (hs1 hs2 : Str → Option Bool) (Wout : WDt) (wb : WDt → TDS) (ws1 ws2 : Addr → Option Addr → Str → TDS) : TDS := fun D ρ n => wb (fun xd ρ' n' => ∃ b, hs1 xd.1 = some b ∧
  (b = true → ∀ a d, ws1 a d xd.1 { D with nx := fun ρ2 n2 => D.nx (ρ2.set i .un) n2, bk := fun ρ2 n2 => D.bk (ρ2.set i .un) n2, ct := fun ρ2 n2 => D.ct (ρ2.set i .un) n2 } (ρ'.set i (.err a d (xd.2.map (·.1)) (xd.2.map (·.2)))) n') ∧
  (b = false → ∃ b, hs2 xd.1 = some b ∧
    (b = true → ∀ a d, ws2 a d xd.1 { D with nx := fun ρ2 n2 => D.nx (ρ2.set i .un) n2, bk := fun ρ2 n2 => D.bk (ρ2.set i .un) n2, ct := fun ρ2 n2 => D.ct (ρ2.set i .un) n2 } (ρ'.set i (.err a d (xd.2.map (·.1)) (xd.2.map (·.2)))) n') ∧ (b = false → Wout xd ρ' n'))) D ρ n
theorem ds_try_as2 {c1 c2 : Value} {hs1 hs2 : Str → Option Bool} {Wout : WDt} {wb : WDt → TDS} {ws1 ws2 : Addr → Option Addr → Str → TDS} (hst : X.stack = X.env :: X.outer) (hf : X.env.frame = some X.env.locals) (hN : X.N.Nodup) (hi : X.N[i]? = some n) (hln : X.env.kindOf n = some .local) (hc1 : Names X x1 c1) (hc2 : Names X x2 c2) (tk : Takes X (tWX X.K X.mg B Wout))
    (hh1 : ∀ nm b cls, hs1 nm = some b → X.mg nm = some cls → PySem.W.exmOne X.K cls c1 = some b) (hh2 : ∀ nm b cls, hs2 nm = some b → X.mg nm = some cls → PySem.W.exmOne X.K cls c2 = some b)
    (hb : ∀ (W : WDt) (pn : List (Addr × Obj)) (xe : Value → Shared → Prop), Takes (X.tr pn xe) (tWX X.K X.mg B W) → PassesOwn (model X.prog X.w) X.A X.env xe → DSs (X.tr pn xe) B body (wb W))
    (hsu1 : ∀ (a : Addr) (oe : Obj) (cls : Value) (d : Option Addr) (pn : List (Addr × Obj)) (nm : Str), Zc cls d oe → (∃ vs, oe.data = .fields vs) → X.mg nm = some cls → DSs (X.suite a ((a, oe) :: pn)) B (b1 :: s1) (ws1 a d nm))
    (hsu2 : ∀ (a : Addr) (oe : Obj) (cls : Value) (d : Option Addr) (pn : List (Addr × Obj)) (nm : Str), Zc cls d oe → (∃ vs, oe.data = .fields vs) → X.mg nm = some cls → DSs (X.suite a ((a, oe) :: pn)) B (b2 :: s2) (ws2 a d nm)) :
    DS0 X B (.Try body [.ExceptHandler (some (.Name x1 np1)) (some n) (b1 :: s1) po1, .ExceptHandler (some (.Name x2 np2)) (some n) (b2 :: s2) po2] [] [] pos) (wTryAs2 i hs1 hs2 Wout wb ws1 ws2) := by
  have suite : ∀ {b : Stmt} {ss : List Stmt} {ws : Addr → Option Addr → Str → TDS}, (∀ (a : Addr) (oe : Obj) (cls : Value) (d : Option Addr) (pn : List (Addr × Obj)) (nm : Str), Zc cls d oe → (∃ vs, oe.data = .fields vs) → X.mg nm = some cls → DSs (X.suite a ((a, oe) :: pn)) B (b :: ss) (ws a d nm)) →
      ∀ (a : Addr) (oe : Obj) (cls : Value) (d : Option Addr) (pn : List (Addr × Obj)), Zc cls d oe → (∃ vs, oe.data = .fields vs) → PSs (X.suite a ((a, oe) :: pn)) (b :: ss) (fun D σ H => ∃ nm, X.mg nm = some cls ∧ tDS X.K B (ws a d nm) D σ H) := by
    intro b ss ws hsu a oe cls d pn hz hfv
    refine ⟨fun pins s σ H D I h => ?_⟩
    obtain ⟨nm, hm, h⟩ := h
    exact (hsu a oe cls d pn nm hz hfv hm).run pins s σ H D I h
  refine PS.imp (ps_try_manyAs (tb := fun W D σ H => ∃ Wd : WDt, (∀ cls dd σ H, tWX X.K X.mg B Wd cls dd σ H → W cls dd σ H) ∧ tDS X.K B (wb Wd) D σ H)
    (l := [(c1, fun a cls d D σ H => ∃ nm, X.mg nm = some cls ∧ tDS X.K B (ws1 a d nm) D σ H), (c2, fun a cls d D σ H => ∃ nm, X.mg nm = some cls ∧ tDS X.K B (ws2 a d nm) D σ H)]) hst hf hN hi hln tk (fun W pn xe tk' po => ?_) (.cons hc1 (suite hsu1) (.cons hc2 (suite hsu2) .nil))) fun D σ H h => ?_
  · refine ⟨fun pins s σ H D I h => ?_⟩
    obtain ⟨Wd, hi, h⟩ := h
    exact (hb Wd pn xe (tk'.imp hi) po).run pins s σ H D I h
  · obtain ⟨G, ρ, n, D', e, hw, k1, k2, k3, k4⟩ := h
    refine ⟨_, fun cls dd σ1 H1 h1 => ?_, G, ρ, n, [], D', e, hw, k1, k2, k3, k4⟩
    obtain ⟨xd, ρ1, n1, G1, τ1, ⟨b, hb1, hy, hn⟩, e1, hd⟩ := h1
    have go : ∀ {ws : Addr → Option Addr → Str → TDS} (a : Addr), (∀ a d, ws a d xd.1 { D' with nx := fun ρ2 n2 => D'.nx (ρ2.set i .un) n2, bk := fun ρ2 n2 => D'.bk (ρ2.set i .un) n2, ct := fun ρ2 n2 => D'.ct (ρ2.set i .un) n2 } (ρ1.set i (.err a d (xd.2.map (·.1)) (xd.2.map (·.2)))) n1) →
        ∃ nm, X.mg nm = some cls ∧ tDS X.K B (ws a dd nm) { nx := fun σ' H' => D.nx (σ'.set i none) H', rt := D.rt, bk := fun σ' H' => D.bk (σ'.set i none) H', ct := fun σ' H' => D.ct (σ'.set i none) H' } (σ1.set i (some (.ref a))) H1 := by
      intro ws a hy
      have e2 : EnvOk X.K B.1 B.2 G1 H1 σ1 ρ1 n1 [] := EnvOk.pop (τ := []) e1
      have e3 : EnvOk X.K B.1 B.2 G1 H1 (σ1.set i (some (.ref a))) (ρ1.set i (.err a dd (xd.2.map (·.1)) (xd.2.map (·.2)))) n1 [] := e2.setAny ⟨rfl, fun z => hd.2.1 (List.map_eq_nil_iff.mp z), fun z => by
        obtain ⟨d', vs, h1, h2, h3, h4, h5⟩ := hd.2.2 (fun y => z (by rw [y]; rfl))
        exact ⟨d', vs, h1, h2, h3, h4, h5⟩⟩
      refine ⟨xd.1, hd.1, G1, _, n1, [], _, e3, hy a dd, fun σ' ρ' n' G' H' h2 e4 => k1 _ _ _ _ _ h2 (e4.setAny trivial), fun d n' v G' H' σ' ρ' h2 r2 e4 => ?_, fun σ' ρ' n' G' H' h2 e4 => k3 _ _ _ _ _ h2 (e4.setAny trivial), fun σ' ρ' n' G' H' h2 e4 => k4 _ _ _ _ _ h2 (e4.setAny trivial)⟩
      exact k2 d n' v G' H' σ' ρ' h2 r2 e4
    refine ⟨b, hh1 _ _ _ hb1 hd.1, fun hb2 a ha => go a (hy hb2), fun hb2 => ?_⟩
    obtain ⟨b', hb1', hy', hn'⟩ := hn hb2
    exact ⟨b', hh2 _ _ _ hb1' hd.1, fun hb3 a ha => go a (hy' hb3), fun hb3 => ⟨xd, ρ1, n1, G1, τ1, hn' hb3, e1, hd⟩⟩
end
section
variable {X : Cx} {B : Bs} {x : Str} {p pos : Pos} {e : Expr} {ws : TDA} {W : WDt}
/-! ### a call by names alone of a def that may raise -/
def tCallKS (sp : Sp) (m : Nat) (ix : List Nat) (E : L2.St → XK) (tk : TA) : TE := fun σ H Q => tk σ H fun zs H2 => zs.length = m ∧ sp (pick ix zs) H2 Q (E σ)
theorem pe_callKS {CX : CXT} {k m : Nat} {f : Addr} {fd : FuncData} {ps ks : List Str} {ix : List Nat} {sp : Sp} {E : L2.St → XK} {kws : List Keyword} {tk : TA} (F : FnOk X.prog X.w X.K X.mg X.base CX k f fd ps sp) (hr : Room k X.A) (hg : Gl X x) (hm : X.mg x = some (.ref f)) (hk : PySem.W.keepIn X.K (.ref f) = true)
    (hb : KB0 X.K fd ps ks ix) (hpm : ps.length = m) (hx : ∀ σ, PassesAt CX X σ (E σ)) (hkw : PK X kws tk) (hall : (backToKw pos (keywordEach kws X.env)).all (·.1.isSome) = true := by rfl) (hks : (backToKw pos (keywordEach kws X.env)).filterMap (·.1) = ks := by rfl)
    (hdb : (x == ("__debug__" : Str)) = false := by decide) (hpl : ((backTo pos (starEach [] X.env)).any (·.1) || (backToKw pos (keywordEach kws X.env)).any (·.1.isNone)) = false := by rfl) :
    PE X (.Call (.Name x p) [] kws pos) (tCallKS sp m ix E tk) := by
  refine ⟨fun pins s σ H Q I h => wpAny_Call_Name_kw (ld_glob I hg hm (PySem.W.callWith_KW0 (h₀ := X.base) I.ok.mod.kin hk hall ?_ hpl) hdb)⟩
  refine thn (hkw.run pos pins s σ H _ I h) fun us s1 ⟨zs, H1, I1, rz, hz, q⟩ => ⟨I1.kIn, ?_⟩
  rw [hks]
  have hl : us.length = ps.length := by rw [← Paired.length rz, hz, hpm]
  show wpAny _ _ (call (.ref f) [] (ks.zip us)) _ _ _
  refine wpAny_call (codeAny_mono (F.run X.A X.stack s1 H1 ⟨[], ks.zip us⟩ (pick ix us) (pick ix zs) Q (E σ) hr I1.env0 (hb.to s1 us I1.kIn hl) (pick_vals rz) q) fun r s' hq => ?_)
  match r, hq with
  | .error er, hq => exact hx σ pins H1 s1 er s' I1 hq
  | .ok (.ret u), hq => exact I1.after hq
  | .ok .next, hq => exact False.elim hq
  | .ok .brk, hq => exact False.elim hq
  | .ok .cont, hq => exact False.elim hq
def wCallKX (W : WDt) (m : Nat) (c : CtrX) (ix : List Nat) (ws : TDA) : TD := fun ρ n Q => ws ρ n fun rs ρ1 n1 => rs.length = m ∧ c (pick ix (rs.map dOf)) n1 (fun d n2 => Q (.val d) ρ1 n2) fun xd n2 => W xd ρ1 n2
theorem de_callKX {m : Nat} {c : CtrX} {ix : List Nat} (hix : ∀ l : List D, l.length = m → (pick ix l).length = m) (h : PE X e (tCallKS (spX X.K X.mg m c) m ix (WE (tWX X.K X.mg B W)) (tDA X.K B ws))) : DE X B e (wCallKX W m c ix ws) :=
  PE.imp h fun σ H Q ⟨G, ρ, n, τ, Q', e, hw, k⟩ => ⟨G, ρ, n, τ, _, e, hw, fun rs ρ1 n1 vs G1 H1 ⟨hm, h1⟩ hl e1 => by
    obtain ⟨G2, x2, e2, rl⟩ := EnvOk.freezeAll rs vs τ G1 hl e1
    obtain ⟨g0, x3⟩ := e2.out
    refine ⟨by rw [hl, hm], outG G2, pick ix (rs.map dOf), n1, _, _, g0, hix _ (by rw [List.length_map, hm]), pick_rep (rl.mono x3), h1, fun d n2 v G' H' h2 gr bg fh rv => ?_, fun xd n2 cls dd G' H' h2 gr bg fh hd => ?_⟩
    · obtain ⟨e3, x4⟩ := e2.back gr bg fh
      exact k _ _ _ _ _ _ h2 (e3.pushV (rv.mono x4))
    · obtain ⟨e3, x4⟩ := e2.back gr bg fh
      obtain ⟨h3, h4, h5⟩ := hd
      refine ⟨xd, ρ1, n2, _, _, h2, e3, h3, h4, fun hne => ?_⟩
      obtain ⟨d, vs', e1, g1, e2, e3, e4⟩ := h5 hne
      exact ⟨d, vs', e1, (x4.fro _ g1).1, (x4.fro _ g1).2 _ e2, e3, e4.mono x4⟩⟩
end
end Ly

namespace Ly.RV
open PySem PySem.Spec PyProof.Rows L2 HT
section
variable {prog : Program} {w : World} {A : Around} {E : Value → Shared → Prop} {s : Shared}
theorem places_rev (n : Nat) : Builtin.Slice.slicePlaces ((n : Int) - 1) (-1) (-1) = n := by
  unfold Builtin.Slice.slicePlaces
  rw [if_neg (by omega)]
  by_cases h : n = 0
  · subst h; rfl
  · rw [if_pos (by omega)]
    rw [Int.neg_neg, Int.ediv_one]
    omega
theorem applied_rev {sl : Addr} {vs : Value} {n : Nat} {Q : Int × Int × Nat → Shared → Prop} (hs : s.heap.IsSliceOf sl .none .none vs) (ps : IsPart vs (some (-1))) (h : Q ((n : Int) - 1, -1, n) s) :
    wpAny (model prog w) A (Builtin.Slice.sliceApplied (.ref sl) (pure (n : Int))) Q E s := by
  obtain ⟨os, hos, hcs, hds⟩ := id hs
  unfold Builtin.Slice.sliceApplied Builtin.Slice.sliceFields
  refine wpAny_bind (wpAny_bind (wpAny_field hos hds (x := .none) rfl (wpAny_bind (wpAny_field hos hds (x := .none) rfl (wpAny_bind (wpAny_field hos hds (x := vs) rfl (wpAny_pure ?_)))))))
  refine wpAny_bind (slicePart_ ps ?_)
  show wpAny _ _ (if ((-1 : Int) == 0) = true then _ else _) _ _ s
  rw [if_neg (by decide)]
  refine wpAny_bind (slicePart_ .none (wpAny_bind (slicePart_ .none (wpAny_bind (wpAny_pure ?_)))))
  show wpAny _ _ (pure ((n : Int) - 1, (-1 : Int), Builtin.Slice.slicePlaces ((n : Int) - 1) (-1) (-1))) _ _ s
  rw [places_rev]
  exact wpAny_pure h
theorem fm_congr {α β : Type} {f g : α → Option β} : ∀ {l : List α}, (∀ x ∈ l, f x = g x) → l.filterMap f = l.filterMap g
  | [], _ => rfl
  | a :: l, h => by rw [List.filterMap_cons, List.filterMap_cons, h a List.mem_cons_self, fm_congr fun x hx => h x (List.mem_cons_of_mem _ hx)]
theorem pick_rev (xs : List Value) : ((List.range xs.length).filterMap fun (m : Nat) => xs.toArray[(((xs.length : Int) - 1) + (m : Int) * (-1)).toNat]?) = xs.reverse := by
  have e : ∀ m ∈ List.range xs.length, xs.toArray[(((xs.length : Int) - 1) + (m : Int) * (-1)).toNat]? = xs.reverse[m]? := by
    intro m hm
    rw [List.mem_range] at hm
    rw [List.getElem?_reverse hm, show (((xs.length : Int) - 1) + (m : Int) * (-1)).toNat = xs.length - 1 - m by omega]
    simp
  have e2 : ((List.range xs.length).filterMap fun (m : Nat) => xs.toArray[(((xs.length : Int) - 1) + (m : Int) * (-1)).toNat]?) = (List.range xs.reverse.length).filterMap fun m => xs.reverse[m]? := by
    rw [List.length_reverse]
    exact fm_congr e
  rw [e2]
  generalize xs.reverse = ys
  refine List.ext_getElem? fun i => ?_
  have : (List.range ys.length).filterMap (fun m => ys[m]?) = (List.range ys.length).map (fun m => ys.getD m .none) := by
    rw [← List.filterMap_eq_map]
    refine fm_congr fun m hm => ?_
    rw [List.mem_range] at hm
    simp [List.getD, hm]
  rw [this, List.getElem?_map]
  by_cases hi : i < ys.length
  · rw [List.getElem?_range hi, List.getElem?_eq_getElem hi]
    simp [List.getD, hi]
  · rw [List.getElem?_eq_none (by rw [List.length_range]; omega), List.getElem?_eq_none (by omega)]; rfl
theorem getItem_rev {t sl : Addr} {xs : List Value} {vs : Value} {Q : Value → Shared → Prop} (ht : IsTup s.heap t xs.toArray) (hs : s.heap.IsSliceOf sl .none .none vs) (ps : IsPart vs (some (-1)))
    (h : Q (.ref s.heap.objs.size) { s with heap := s.heap.push { cls := .type "tuple", data := .seq xs.reverse.toArray } }) (hsz : xs.length ≤ sizeLine) : wpAny (model prog w) A (getItem (.ref t) (.ref sl)) Q E s := by
  have htake : sizeOk (.seq xs.reverse.toArray) := by
    show xs.reverse.toArray.size ≤ sizeLine
    rw [List.size_toArray, List.length_reverse]; exact hsz
  obtain ⟨os, hos, hcs, hds⟩ := id hs
  have hTs : s.TypeIs (.ref sl) "slice" := ⟨os, hos, hcs⟩
  unfold getItem
  try with_reducible refine wpAny_holding ?_
  first | refine wpAny_bind (wpAny_pure ?_) | skip
  refine wpAny_bind (wpAny_sequenceKey ht.typeIs (by decide) ?_)
  refine wpAny_bind (wpAny_callSpecial?_slot (name := Str.ofString "__getitem__") ht.typeIs PyProof.Rows.slot_tuple_getitem
    (wpAny_call_entry PyProof.Rows.slot_tuple_getitem ht.typeIs entry_tuple_getitem ?_ (args_tuple_getitem _ _)))
  show wpAny _ _ (Builtin.Tuple.tupleItemsOf (.ref t) >>= _) _ _ s
  refine wpAny_bind (tupleItemsOf_ ht ?_)
  refine wpAny_bind (wpAny_typeOf hTs ?_)
  rw [if_pos (by decide)]
  refine wpAny_bind (applied_rev (n := xs.length) hs ps ?_)
  show wpAny _ _ (if ((((xs.length : Nat) : Int) - 1 == 0) && ((-1 : Int) == 1) && (xs.length == xs.toArray.size)) = true then _ else _) _ _ s
  rw [if_neg (by simp)]
  have epk : List.filterMap (fun (k : Nat) => xs.toArray[(((xs.length : Nat) : Int) - 1 + (k : Int) * -1).toNat]?) (List.range xs.length) = xs.reverse := pick_rev xs
  rw [epk]
  first
    | exact wpAny_bind (m := Builtin.Tuple.tupleExact _) (wpAny_newObj_type (wpAny_pure ⟨_, rfl, wpAny_pure h⟩) htake)
    | exact wpAny_bind (m := Builtin.Tuple.tupleExact _) (wpAny_newObj_type (wpAny_bind (wpAny_pure (wpAny_pure ⟨_, rfl, wpAny_pure h⟩))) htake)
    | exact wpAny_bind (wpAny_bind (m := Builtin.Tuple.tupleExact _) (wpAny_newObj_type (wpAny_pure (wpAny_pure ⟨_, rfl, wpAny_pure h⟩)) htake))
    | exact wpAny_bind (wpAny_bind (m := Builtin.Tuple.tupleExact _) (wpAny_newObj_type (wpAny_pure ⟨_, rfl, wpAny_pure h⟩) htake))
end
section
variable {X : Cx} {e : Expr} {te : TE} {k : Nat} {p1 p2 p3 pos : Pos}
/-- xs[::-1] of a tuple -/
def tRevT (K : PySem.W.Frag) (te : TE) : TE := fun σ H Q => te σ H fun x H1 => ∃ a xs, x = .ref a ∧ SqT K H1 a xs ∧ ∀ p, H1 p = none → Q (.ref p) (upd H1 p (.tup xs.reverse))
theorem pe_revT (he : PE X e te) : PE X (.Subscript e (.Slice none none (some (.UnaryOp .USub (.Constant (.int 1) k p1) p2)) p3) pos) (tRevT X.K te) := by
  refine ⟨fun pins s σ H Q I h => Subscript_ (thn (he.run pins s σ H _ I h) fun v s1 ⟨x, H1, I1, r1, a, xs, ex, hx, q⟩ => ?_)⟩
  subst ex
  cases r1
  have hst : PO X (some (.UnaryOp .USub (.Constant (.int 1) k p1) p2)) (tPart (tUn (rU fun i => .int (-i)) (tC (.int 1)))) := po_some (pe_un un_neg pe_int)
  refine wpAny_Slice (thn (po_none.run pins s1 σ H1 (fun o H2 => o = none ∧ H2 = H1) I1 ⟨rfl, rfl⟩) fun vl s2 ⟨l, H2, I2, pl, el, e2⟩ => ?_)
  subst el e2
  refine thn (po_none.run pins s2 σ H2 (fun o H3 => o = none ∧ H3 = H2) I2 ⟨rfl, rfl⟩) fun vu s3 ⟨u, H3, I3, pu, eu, e3⟩ => ?_
  subst eu e3
  refine thn (hst.run pins s3 σ H3 (fun o H4 => o = some (-1) ∧ H4 = H3) I3 ⟨1, rfl, -1, rfl, rfl, rfl⟩) fun vs s4 ⟨o, H4, I4, ps, eo, e4⟩ => ?_
  subst eo e4
  cases pl
  cases pu
  have I5 : Inv X pins σ H4 { s4 with heap := s4.heap.push { cls := .type "slice", data := .fields #[.none, .none, vs] } } := I4.kept (t' := s4.toks) fun b ob q => Heap.get?_push_of_some _ q
  obtain ⟨its, r, ht, hz⟩ := I5.tuple hx
  have hlen := r.length
  show wpAny (model X.prog X.w) X.A (subscriptTail e (.Slice none none (some (.UnaryOp .USub (.Constant (.int 1) k p1) p2)) p3) (.ref a) (.ref s4.heap.objs.size)) (EP X pins σ Q) X.xe { s4 with heap := s4.heap.push { cls := .type "slice", data := .fields #[.none, .none, vs] } }
  refine tail_any (ops := [.ref a, .ref s4.heap.objs.size]) ht.typeIs (PyProof.Rows.slot_tuple_getitem.lookup) ?_ (by with_unfolding_all rfl)
  refine getItem_rev ht (Heap.IsSliceOf.new _ .none .none vs) ps ?_ (by rw [← hlen]; exact hz)
  refine ⟨.ref _, _, I5.laid (t' := s4.toks) (o := .tup xs.reverse) (fun b ob q => Heap.get?_push_of_some _ q) (Nat.le_refl _) ?_, rfl, q _ (I5.hok.fresh (Nat.le_refl _))⟩
  exact ⟨by rw [List.length_reverse]; exact hz, _, r.reverse, IsTup.new _ _⟩
end
end Ly.RV
namespace Ly
open PySem PySem.Spec PyProof.Rows L2
section
variable {X : Cx} {B : Bs} {a : Expr} {k : Nat} {p1 p2 p3 pos : Pos}
def wRevT (wa : TD) : TD := fun ρ n Q => wa ρ n fun r ρ1 n1 => ∃ l, r = .val (.tup l) ∧ Q (.val (.tup l.reverse)) ρ1 n1
theorem de_revT (ha : DE X B a wa) : DE X B (.Subscript a (.Slice none none (some (.UnaryOp .USub (.Constant (.int 1) k p1) p2)) p3) pos) (wRevT wa) :=
  PE.imp (RV.pe_revT ha) fun σ H Q ⟨G, ρ, n, τ, Q', e, hw, kk⟩ => ⟨G, ρ, n, τ, _, e, hw, fun r ρ1 n1 v G1 H1 ⟨l, hr, h1⟩ e1 => by
    subst hr
    have rv := e1.topV
    cases rv with
    | tup q rl =>
      refine ⟨_, _, rfl, SqT.of q, fun p hp => ?_⟩
      exact kk _ _ _ _ _ _ h1 ((e1.pop.alloc hp (.tup _) .oth (by simp)).pushV (.tup upd_same (rl.reverse.mono (Ext.alloc e1 hp))))⟩
end
end Ly

namespace Ly
open PySem PySem.Spec PyProof.Rows L2
/-- a def that shows data and whose body holds tries -/
theorem def_okG0 {P : Program} {w : World} {K : PySem.W.Frag} {mg : Str → Option Value} {base : Heap} {x qual : Str} {st : Stmt} {f : Addr} {fd : FuncData} {N ps : List Str} {k m : Nat} {c : Ctr} {wb : TDS} (F : Fun K x qual st f fd) (S : FnScope N ps (defScope st)) (hm : ps.length = m)
    (hbody : ∀ (cdv : Value) (A : Around) (outer : List Env) (s : Shared) (H : Hp) (E : XK) (B : Bs), (A.deeper (envOfC qual (defScope st) s.heap.objs.size f cdv)).guards = some [] → Room k (A.deeper (envOfC qual (defScope st) s.heap.objs.size f cdv)) → DSs0 (cxOf CX0 P w K mg base N qual (defScope st) f cdv A outer s H E).nox B (defBody st) wb)
    (hc : ∀ ds n Q, ds.length = m → c ds n Q → wb { nx := fun _ n' => Q .non n', rt := Q } (startD N ds) n) : FnG P w K mg base (k + 1) f fd ps (spC K m c) := by
  refine okG F S (fun vs H Q E ⟨G, ds, n, Q', g, hl, rl, hc, hq⟩ => by rw [rl.length, hl, hm]) (fun cdv A outer s H vs Q E hg hr ⟨G, ds, n, Q', g, hl, rl, h1, hq⟩ => ?_)
  exact ⟨_, hbody cdv A outer s H E (G, H) hg hr, G, startD N ds, n, _, envOk_start g rl, hc ds n Q' hl h1, fun σ' ρ' n' G' H' h2 e2 => hq .non n' .non G' H' h2 e2.gr e2.bg e2.fh .non,
    fun d n' v G' H' σ' ρ' h2 r2 e2 => hq d n' v G' H' h2 e2.gr e2.bg e2.fh r2, fun _ _ _ _ _ z => z.elim, fun _ _ _ _ _ z => z.elim⟩
end Ly

namespace Ly
open PySem PySem.Spec PyProof.Rows L2
/-! ### a display of texts, asked with .get(e, text) -/
def getC : List (Str × Str) → Str → Str → Str
  | [], _, d => d
  | (k, v) :: r, w, d => if k = w then v else getC r w d
def kvC (ps : List (Str × Str)) : List (Key × V) := ps.map fun p => (.inr p.1, .str p.2)
def mC (ps : List (Str × Str)) : List (List Key × D) := ps.map fun p => ([.inr p.1], .str p.2)
theorem repM_strs {K : PySem.W.Frag} {G : Gh} {H : Hp} : ∀ {ps : List (Str × Str)} {vs : List (Key × V)}, RepM K G H (vs.map fun p => ([p.1], p.2)) (mC ps) → vs = kvC ps
  | [], [], _ => rfl
  | [], _ :: _, h => by cases h
  | _ :: _, [], h => by cases h
  | p :: ps, (k, v) :: vs, h => by
    have h : RepM K G H (([k], v) :: vs.map fun p => ([p.1], p.2)) (([.inr p.1], .str p.2) :: mC ps) := h
    cases h with
    | cons r rm =>
      cases r
      rw [repM_strs rm]
      rfl
theorem mC_rep {K : PySem.W.Frag} {G : Gh} {H : Hp} : ∀ {ps : List (Str × Str)}, RepM K G H ((kvC ps).map fun p => ([p.1], p.2)) (mC ps)
  | [] => .nil
  | _ :: _ => .cons (.str _) mC_rep
theorem valV_C {w d : Str} : ∀ {ps : List (Str × Str)}, (valV (kvC ps) (.inr w)).getD (.str d) = .str (getC ps w d)
  | [] => rfl
  | (k, v) :: ps => by
    have ih := valV_C (w := w) (d := d) (ps := ps)
    unfold kvC valV at ih ⊢
    rw [List.map_cons, getC]
    by_cases h : k = w
    · subst h; simp
    · have h2 : (Sum.inr k : Key) ≠ .inr w := fun z => h (Sum.inr.inj z)
      simp only [h, if_false]
      rw [← ih]
      simp [h2]
theorem tPairs_C {σ : L2.St} {H : Hp} {Q : List (V × V) → Hp → Prop} : ∀ {ps : List (Str × Str)}, Q (ps.map fun p => (.str p.1, .str p.2)) H → tPairs (ps.map fun p => (tC (.str p.1), tC (.str p.2))) σ H Q
  | [], h => h
  | p :: ps, h => tPairs_C (Q := fun r H3 => Q ((.str p.1, .str p.2) :: r) H3) h
def wGetC (ps : List (Str × Str)) (dflt : Str) (we : TD) : TD := fun ρ n Q => we ρ n fun r ρ1 n1 => ∃ w, r = .val (.str w) ∧ Q (.val (.str (getC ps w dflt))) ρ1 n1
section
variable {X : Cx} {B : Bs} {o e f : Expr} {apos cpos : Pos} {ps : List (Str × Str)} {dflt : Str} {we : TD}
theorem de_getC (hu : X.A.units + 1 < cLine) (ho : PE X o (tDisp (ps.map fun p => (tC (.str p.1), tC (.str p.2))))) (he : DE X B e we) (hf : PE X f (tC (.str dflt))) (m : M2 X o "get" apos e f cpos) (hk : mergeK [] (kvC ps) = kvC ps := by rfl) (hl : ps.length ≤ 15 := by decide) :
    DE X B (.Call (.Attribute o "get" apos) [e, f] [] cpos) (wGetC ps dflt we) :=
  PE.imp (pe_dget2 hu ho he hf m) fun σ H Q ⟨G, ρ, n, τ, Q', ev, hw, k⟩ => fun p hp => by
    refine tPairs_C ⟨upd_same, kvC ps, ?_, by unfold kvC; rw [List.length_map]; exact hl, p, rfl, ?_, ?_⟩
    · unfold kvC
      rw [List.map_map]
      rfl
    · rw [hk]
      exact .inl ⟨_, .inl upd_same⟩
    · rw [hk, upd_upd]
      refine ⟨_, ρ, n, τ ++ [(.ref p, .newD false (mC ps))], _, (ev.alloc hp (.dK (kvC ps)) (.tmp τ.length) (by simp)).push (v := .ref p) (r := .newD false (mC ps)) ⟨p, _, rfl, updG_same, upd_same, kvC ps, rfl, mC_rep⟩, hw, ?_⟩
      rintro r ρ1 n1 v G1 H1 ⟨w, rfl, h1⟩ e1
      have rv := e1.topV
      cases rv
      obtain ⟨a, u, ea, ga, ha, vs, eu, rm⟩ := e1.top2
      cases ea
      subst eu
      rw [repM_strs rm] at ha
      refine ⟨_, DGet.k (k := .inr w) ha, ?_⟩
      rw [valV_C]
      exact k _ _ _ _ _ _ h1 (e1.pop.pop.pushV (.str _))
end
end Ly

namespace Ly
open PySem PySem.Spec PyProof.Rows L2
/-! ### a dict of texts that the top has bound -/
def getP : List (Str × Str) → Str → Option Str
  | [], _ => none
  | (k, v) :: r, w => if k = w then some v else getP r w
def EntsAre (P : Params) : List DictEntry → List (Str × Str) → Prop
  | [], [] => True
  | e :: es, p :: ps => ((∃ t, e.key = .str p.1 t) ∧ e.hash = PyData.keyHash P p.1 ∧ ∃ t, e.val = .str p.2 t) ∧ EntsAre P es ps
  | _, _ => False
theorem EntsAre.lit {P : Params} : ∀ {es : List DictEntry} {ps : List (Str × Str)}, EntsAre P es ps → PySem.W.KeysLit P es
  | [], [], _ => trivial
  | _ :: _, p :: _, ⟨⟨⟨t, h1⟩, h2, _⟩, r⟩ => ⟨⟨p.1, t, h1, h2⟩, r.lit⟩
  | [], _ :: _, h => h.elim
  | _ :: _, [], h => h.elim
theorem EntsAre.find {P : Params} {k v : Str} : ∀ {es : List DictEntry} {ps : List (Str × Str)}, EntsAre P es ps → getP ps k = some v → ∃ t, (es.find? fun e => Value.isStrOf k e.key).map (·.val) = some (.str v t)
  | [], [], _, h => by cases h
  | e :: es, p :: ps, ⟨⟨⟨t, h1⟩, h2, t2, h3⟩, r⟩, h => by
    obtain ⟨pk, pv⟩ := p
    rw [List.find?_cons]
    by_cases e1 : pk = k
    · subst e1
      have : Value.isStrOf pk e.key = true := by rw [h1]; simp [Value.isStrOf]
      rw [this]
      rw [getP, if_pos rfl] at h
      cases h
      exact ⟨t2, by rw [Option.map_some, h3]⟩
    · have : Value.isStrOf k e.key = false := by rw [h1]; simp [Value.isStrOf]; exact e1
      rw [this]
      rw [getP, if_neg e1] at h
      exact r.find h
  | [], _ :: _, h, _ => h.elim
  | _ :: _, [], h, _ => h.elim
def entKV : List DictEntry → List (Str × Str) → List (Key × Value)
  | e :: es, p :: ps => (.inr p.1, e.val) :: entKV es ps
  | _, _ => []
theorem EntsAre.keys {P : Params} : ∀ {es : List DictEntry} {ps : List (Str × Str)}, EntsAre P es ps → (entKV es ps).map (·.1) = (ps.map (·.1)).map Sum.inr
  | [], [], _ => rfl
  | _ :: _, _ :: _, ⟨_, r⟩ => by rw [entKV, List.map_cons, r.keys]; rfl
  | [], _ :: _, h => h.elim
  | _ :: _, [], h => h.elim
theorem EntsAre.pairs {prog : Program} {w : World} : ∀ {es : List DictEntry} {ps : List (Str × Str)}, EntsAre w.params es ps → Pairs (mixKind prog w) es (entKV es ps)
  | [], [], _ => .nil
  | _ :: _, p :: _, ⟨⟨⟨t, h1⟩, h2, _⟩, r⟩ => .cons (by rw [h1]; show Value.isStrOf p.1 (.str p.1 t) = true; simp [Value.isStrOf]) rfl r.pairs
  | [], _ :: _, h => h.elim
  | _ :: _, [], h => h.elim
structure GDict (w : World) (K : PySem.W.Frag) (mg : Str → Option Value) (x : Str) (ps : List (Str × Str)) : Prop where
  ex : ∃ q es n, mg x = some (.ref q) ∧ K.lookup q = some ⟨.type "dict", none, .dict es n, #[]⟩ ∧ EntsAre w.params es.toList ps ∧ (q == sysModules) = false
  nd : (ps.map (·.1)).Nodup
  sz : ps.length < 64
theorem gdict_of {w : World} {K : PySem.W.Frag} {h : Heap} {mg : Str → Option Value} {x : Str} {ps : List (Str × Str)} {q : Addr} {es : Array DictEntry} {n : Nat} (kin : K.In h) (G : h.Ns mainGlobals mg) (at_ : PySem.W.nsIn K mainGlobals x = some (some (.ref q)))
    (lk : K.lookup q = some ⟨.type "dict", none, .dict es n, #[]⟩) (en : EntsAre w.params es.toList ps) (lo : (q == sysModules) = false) (nd : (ps.map (·.1)).Nodup) (sz : ps.length < 64) : GDict w K mg x ps :=
  ⟨⟨q, es, n, PySem.W.mg_of kin G at_, lk, en, lo⟩, nd, sz⟩
section
variable {X : Cx} {q : Addr} {es : Array DictEntry} {n : Nat} {ps : List (Str × Str)}
theorem ix_gd (hl : X.K.lookup q = some ⟨.type "dict", none, .dict es n, #[]⟩) (en : EntsAre X.w.params es.toList ps) : IxR X (fun x y H Q => ∃ k v, x = .ref q ∧ y = .str k ∧ getP ps k = some v ∧ Q (.str v) H) := by
  intro value slice pins s σ H x y v u Q I rx ry h hs
  obtain ⟨k, z, rfl, rfl, e, qq⟩ := h
  obtain rfl : v = Value.ref q := rx
  obtain ⟨t, rfl⟩ := ry
  have hm := PySem.W.mapOf_K (prog := X.prog) (w := X.w) I.kIn hl en.lit
  obtain ⟨t2, e2⟩ := en.find e
  have e3 : findBy Value.isStrOf es k = some (.str z t2) := by
    unfold findBy
    rw [← e2]
    congr 1
    rw [← Array.find?_toList]
  exact tail_any hm.typeIs slot_dict_getitem.lookup (wpAny_getItem_of (strKind_is X.prog X.w k t) hm e3 ⟨.str z, H, I.tok _, ⟨t2, rfl⟩, qq⟩) hs
end
section
variable {X : Cx} {B : Bs} {b : Expr} {p pos : Pos} {x : Str} {ps : List (Str × Str)} {wb : TD}
def wGIx (ps : List (Str × Str)) (wb : TD) : TD := fun ρ n Q => wb ρ n fun r ρ1 n1 => ∃ k v, r = .val (.str k) ∧ getP ps k = some v ∧ Q (.val (.str v)) ρ1 n1
theorem de_gix (T : GDict X.w X.K X.mg x ps) (hg : Gl X x) (hb : DE X B b wb) (hs : PlainIx b) (hd : (x == ("__debug__" : Str)) = false := by decide) : DE X B (.Subscript (.Name x p) b pos) (wGIx ps wb) := by
  obtain ⟨q, es, n, h1, h2, h3, _⟩ := T.ex
  refine PE.imp (pe_ix (ix_gd h2 h3) (pe_glob (v := .ref q) hg h1 rfl hd) hb hs) fun σ H Q ⟨G, ρ, n, τ, Q', e, hw, k⟩ => ?_
  refine ⟨G, ρ, n, τ, _, e, hw, fun r ρ1 n1 v G1 H1 ⟨k1, v1, hr, hp, h4⟩ e1 => ?_⟩
  subst hr
  have rv := e1.topV
  cases rv
  exact ⟨k1, v1, rfl, rfl, hp, k _ _ _ _ _ _ h4 (e1.pop.pushV (.str _))⟩
end
/-! ### sorted(d) of such a dict -/
theorem sorted_pw : ∀ {l : List Str}, sortedS l = true → l.Pairwise (fun a b => a.cps.toList ≤ b.cps.toList) := by
  have ris : ∀ (l : List Str) (p : Str), risingS p l = true → (p :: l).Pairwise (fun a b => a.cps.toList ≤ b.cps.toList) := by
    intro l
    induction l with
    | nil => intro p _; simp
    | cons x r ih =>
      intro p h
      rw [risingS, Bool.and_eq_true] at h
      have h1 : p.cps.toList ≤ x.cps.toList := by
        have := h.1
        rw [ltCps_eq] at this
        simpa using this
      have h2 := ih x h.2
      refine List.pairwise_cons.mpr ⟨fun y hy => ?_, h2⟩
      rcases List.mem_cons.mp hy with rfl | hy
      · exact h1
      · exact List.le_trans h1 ((List.pairwise_cons.mp h2).1 y hy)
  intro l h
  cases l with
  | nil => exact .nil
  | cons x r => exact ris r x h
theorem sorted_one {l m : List Str} (hp : l.Perm m) (h1 : sortedS l = true) (h2 : sortedS m = true) : l = m := by
  refine List.Perm.eq_of_pairwise (fun a b _ _ x y => ?_) (sorted_pw h1) (sorted_pw h2) hp
  have e := List.le_antisymm x y
  obtain ⟨⟨a⟩⟩ := a
  obtain ⟨⟨b⟩⟩ := b
  exact congrArg (fun z => (⟨⟨z⟩⟩ : Str)) e
section
variable {X : Cx} {q : Addr} {es : Array DictEntry} {n : Nat} {ps : List (Str × Str)}
theorem call_sortedGD (hcalm : X.calm = true) (hl : X.K.lookup q = some ⟨.type "dict", none, .dict es n, #[]⟩) (en : EntsAre X.w.params es.toList ps) (lo : (q == sysModules) = false) (nd : (ps.map (·.1)).Nodup) (h64 : ps.length < 64) :
    CallR X (.builtin "sorted") (fun xs H Q => xs = [.ref q] ∧ ∀ ys p, ys.Perm (ps.map (·.1)) → sortedS ys = true → H p = none → Q (.ref p) (upd H p (.lst (ys.map V.str)))) := by
  intro pins s σ H xs us Q I r qq
  obtain ⟨ex, qq⟩ := qq
  subst ex
  obtain ⟨u, eu, rx⟩ := vals1 r
  subst eu
  cases rx
  generalize hvs : entKV es.toList ps = vs
  have hkeys : vs.map (·.1) = (ps.map (·.1)).map Sum.inr := by rw [← hvs]; exact en.keys
  have hat : s.heap.DictAt (mixKind X.prog X.w) q vs n := by
    refine ⟨_, es, I.kIn _ _ hl, ⟨rfl, rfl, rfl⟩, rfl, fun e he => ?_, by rw [← hvs]; exact en.pairs, ?_⟩
    · obtain ⟨x, t, e1, e2⟩ := en.lit.all e (Array.mem_toList_iff.mpr he)
      exact ⟨.inr x, by rw [e1]; exact strKind_is X.prog X.w x t, e2⟩
    · rw [hkeys]
      exact (List.pairwise_map.mpr (nd.imp fun h z => h (Sum.inr.inj z)))
  generalize hks : ps.map (·.1) = ks at *
  have hkl : ks.length < 64 := by rw [← hks, List.length_map]; exact h64
  have hl : vs.length = ks.length := by
    have e := congrArg List.length hkeys
    rw [List.length_map, List.length_map] at e
    exact e
  have h16 : vs.length ≤ sizeLine := by rw [hl, sizeLine_eq]; omega
  refine Calls.call_function_entry PyProof.Rows.kind_sorted PyProof.Rows.plain_sorted PyProof.Rows.entry_sorted (PyProof.Rows.args_sorted1 _) ?_
  unfold Builtin.«sorted»
  refine wpAny_bind (m := checkCount "sorted" 1 1 _) (wpAny_pure ?_)
  refine wpAny_bind (PySem.W.kdu_collect (A := X.A.in1) (PySem.W.kdl_dict (knd := mixKind X.prog X.w) (kvs := vs) (ep := n) lo) (I.ok.hd hcalm) hat h16 fun h' tk acc hk hacc => ?_)
  have hal : acc.toList.length = ks.length := by rw [Array.length_toList, hacc.1, hl]
  have hS : StrsAre acc.toList ks := strs_at hal fun j v e => by
    obtain ⟨k, x, e1, e2⟩ := hacc.2 j v (by rw [← Array.getElem?_toList]; exact e)
    have e3 : (vs.map (·.1))[j]? = some k := by rw [List.getElem?_map, e1]; all_goals rfl
    rw [hkeys, List.getElem?_map] at e3
    cases e4 : ks[j]? with
    | none => rw [e4] at e3; cases e3
    | some y =>
      rw [e4] at e3
      have e5 : Sum.inr y = k := Option.some.inj e3
      subst e5
      obtain ⟨t, ev⟩ := Value.isStrOf_shape (x := y) (v := v) e2
      exact ⟨y, t, rfl, ev⟩
  have I1 : Inv X pins σ H { s with heap := h', toks := tk } := I.kept hk
  refine wpAny_bind (wpAny_newList ?_ (by rw [hal, sizeLine_eq]; omega))
  have hoL : (h'.push (seqObj "list" acc.toList.toArray 0)).get? h'.objs.size = some (seqObj "list" acc.toList.toArray 0) := Heap.get?_push_size _ rfl
  show wpAny _ _ _ _ _ { s with heap := h'.push (seqObj "list" acc.toList.toArray 0), toks := tk }
  refine wpAny_bind (wpAny_holding (wpAny_call_entry PyProof.Rows.slot_list_sort ⟨_, hoL, rfl⟩ PyProof.Rows.entry_list_sort
    (list_sort_treeK strKind_oneLt (s := { s with heap := h'.push (seqObj "list" acc.toList.toArray 0), toks := tk }) hoL hS.keysOf (fun v₁ v₂ rest e => keyKind_strs (by rw [← e]; exact hS)) (by rw [hal]; exact hkl) fun st' hp hs => ⟨_, rfl, ?_⟩)
    (PyProof.Rows.args_list_sort _)))
  obtain ⟨ys, g1, g2, g3⟩ := sorted_out_str hS hp hs
  obtain ⟨e', he'⟩ := PyProof.Rows.sortedHeap_at (vs := acc.toList) (out := (arrOf st').map (·.2)) hoL
  have hlen : (ys.map V.str).length ≤ sizeLine := by
    rw [List.length_map, g2.length_eq]
    exact Nat.le_trans (Nat.le_of_lt hkl) (by decide)
  refine wpAny_pure ⟨_, rfl, .ref h'.objs.size, upd H h'.objs.size (.lst (ys.map V.str)), I1.laid (t' := tk) (fun b u e => ?_) (Nat.le_refl _)
    (show ObjOk X.prog X.w _ _ _ (.lst (ys.map V.str)) from ⟨hlen, ((arrOf st').map (·.2)).toList, e', vals_of_strs g1, by rw [Array.toArray_toList]; exact he'⟩), rfl, qq ys _ g2 g3 (I1.hok.fresh (Nat.le_refl _))⟩
  have hb : b < h'.objs.size := Heap.lt_size e
  rw [PyProof.Rows.sortedHeap_old (Nat.ne_of_lt hb) (by rw [size_push']; exact Nat.lt_succ_of_lt hb)]
  exact Heap.get?_push_of_some _ e
end
section
variable {X : Cx} {B : Bs} {p p2 pos : Pos} {x : Str} {ps : List (Str × Str)} {ss : List Str}
def wGSort (ss : List Str) : TD := fun ρ n Q => Q (.new (ss.map .str)) ρ n
theorem repL_strs {K : PySem.W.Frag} {G : Gh} {H : Hp} : ∀ {l : List Str}, RepL K G H (l.map V.str) (l.map D.str)
  | [] => .nil
  | _ :: _ => .cons (.str _) repL_strs
theorem de_gsort (T : GDict X.w X.K X.mg x ps) (hcalm : X.calm = true) (hg : Gl X x) (hgs : Gl X "sorted") (hms : X.mg "sorted" = none) (hss : ss.Perm (ps.map (·.1)) ∧ sortedS ss = true) (hd : (x == ("__debug__" : Str)) = false := by decide)
    (he : starEach [Expr.Name x p2] X.env = (false, eval (.Name x p2) X.env) :: starEach [] X.env := by rfl) (hpl : (backTo pos (starEach [] X.env)).any (·.1) = false := by rfl) :
    DE X B (.Call (.Name "sorted" p) [.Name x p2] [] pos) (wGSort ss) := by
  obtain ⟨q, es, n, h1, h2, h3, h4⟩ := T.ex
  refine PE.imp (pe_callB (call_sortedGD hcalm h2 h3 h4 T.nd T.sz) hgs hms (by decide +kernel) (pa_cons (pe_glob (v := .ref q) hg h1 rfl hd) pa_nil) (by decide) (by decide) he hpl) fun σ H Q ⟨G, ρ, n, τ, Q', e, hw, k⟩ => ?_
  refine ⟨rfl, fun ys p' hp hs hn => ?_⟩
  have : ys = ss := sorted_one (hp.trans hss.1.symm) hs hss.2
  subst this
  exact k _ _ _ _ _ _ hw (e.pushNew hn repL_strs)
end
end Ly

namespace Ly
open PySem PySem.Spec PyProof.Rows L2
/-! ### repr(name): the name keeps its list -/
def dSV : SV → Option D
  | .val d => some d
  | .own l => some (.lst l)
  | _ => none
theorem dSV_val {d : D} : dSV (.val d) = some d := rfl
theorem dSV_own {l : List D} : dSV (.own l) = some (.lst l) := rfl
theorem SlotOk.dpR {K : PySem.W.Frag} {G : Gh} {H : Hp} {o : Option (Option V)} {i : Nat} {s : SV} {d : D} {p : PyData} (h : SlotOk K G H o i s) (hd : dSV s = some d) (hp : toPyR d = some p) : ∃ v, o = some (some v) ∧ DpR K H v p := by
  cases s with
  | un => cases hd
  | ownD t m => cases hd
  | err a d nms ds => cases hd
  | val d' => cases hd; obtain ⟨v, e, r⟩ := h; exact ⟨v, e, Rep.dpR r hp⟩
  | own l =>
    cases hd
    obtain ⟨a, vs, e, g, q, rl⟩ := h
    simp only [toPyR] at hp
    cases h : toPyRs l with
    | none => rw [h] at hp; cases hp
    | some ps => rw [h] at hp; cases hp; exact ⟨_, e, .lst (SqL.of q) (RepL.dpR rl h)⟩
def wReprN (i : Nat) : TD := fun ρ n Q => ∃ s, ρ[i]? = some s ∧ ∃ d, dSV s = some d ∧ ∃ k b, ShR k b d ∧ k ≤ 60 ∧ b ≤ 10000000 ∧ Q (.val (.str (reprD d))) ρ n
section
variable {X : Cx} {B : Bs} {pos : Pos}
theorem de_reprN {i : Nat} {y : Str} {p p' : Pos} (hgd : X.A.guards = some []) (hu : X.A.units + 64 < cLine) (ha : PE X (.Name y p') (tVar i)) (hg : Gl X "repr") (hm : X.mg "repr" = none) : DE X B (.Call (.Name "repr" p) [.Name y p'] [] pos) (wReprN i) :=
  PE.imp (pe_callB (call_reprR hgd hu) hg hm (by decide +kernel) (pa_cons ha pa_nil)) fun σ H Q ⟨G, ρ, n, τ, Q', e, ⟨s, hs, d, hd, k, b, ⟨p, h1, h2, h3, h4, h5⟩, hk, hb, hq⟩, kk⟩ => by
    obtain ⟨v, ev, dp⟩ := (e.sl i s hs).dpR hd h1
    refine ⟨v, ev, v, p, rfl, dp, ⟨h2, h3, Nat.le_trans h4 hk, Nat.le_trans h5 (Nat.le_trans hb (by decide))⟩, kk _ _ _ _ _ _ ?_ (e.pushV (.str _))⟩
    unfold reprD at hq
    rw [h1] at hq
    exact hq
end
end Ly

namespace Ly
open PySem PySem.Spec PyProof.Rows L2
/-! ### texts -/
theorem repL_strs_inv {K : PySem.W.Frag} {G : Gh} {H : Hp} : ∀ {ys : List Str} {vs : List V}, RepL K G H vs (ys.map D.str) → vs = ys.map V.str
  | [], [], _ => rfl
  | [], _ :: _, h => by cases h
  | _ :: _, [], h => by cases h
  | y :: ys, v :: vs, h => by
    have h : RepL K G H (v :: vs) (.str y :: ys.map D.str) := h
    cases h with
    | cons r rm => cases r; rw [repL_strs_inv rm]; rfl
abbrev GM1 := Str → RV → (RV → Prop) → Prop
def SndM1 (K : PySem.W.Frag) (B : Bs) (g : GM1) (r : V → List V → Hp → VK → Prop) : Prop := ∀ (G : Gh) (H : Hp) (σ : L2.St) (ρ : List SV) (n : Nat) (τ : List (V × RV)) (a : Str) (v2 : V) (r2 : RV) (R : RV → Prop) (Q : VK),
  EnvOk K B.1 B.2 G H σ ρ n (τ ++ [(v2, r2)]) → g a r2 R → (∀ rr v G' H', R rr → EnvOk K B.1 B.2 G' H' σ ρ n (τ ++ [(v, rr)]) → Q v H') → r (.str a) [v2] H Q
def wM1 (g : GM1) (wo we : TD) : TD := fun ρ n Q => wo ρ n fun r1 ρ1 n1 => ∃ a, r1 = .val (.str a) ∧ we ρ1 n1 fun r2 ρ2 n2 => g a r2 fun r => Q r ρ2 n2
def wM0 (g : Str → (D → Prop) → Prop) (wo : TD) : TD := fun ρ n Q => wo ρ n fun r1 ρ1 n1 => ∃ a, r1 = .val (.str a) ∧ g a fun d => Q (.val d) ρ1 n1
def gJoin : GM1 := fun a r R => ∃ ys, seqOf r = some (ys.map .str) ∧ (ys.map (·.length)).sum + ys.length * a.length ≤ 16777216 ∧ R (.val (.str (Txt.join a ys)))
def gSplit : GM1 := fun a r R => ∃ b, r = .val (.str b) ∧ (b.length == 0) = false ∧ a.length + 2 ≤ sizeLine ∧ R (.new ((Txt.split a b).map .str))
def gAscii (a : Str) (R : D → Prop) : Prop := R (.bl (Txt.isascii a))
def gDecimal (a : Str) (R : D → Prop) : Prop := R (.bl (Txt.isdecimal a))
section
variable {K : PySem.W.Frag} {B : Bs}
theorem snd_join : SndM1 K B gJoin (fun x xs H Q => ∃ a p, ∃ ys : List Str, x = .str a ∧ xs = [.ref p] ∧ (SqL K H p (ys.map V.str) ∨ SqT K H p (ys.map V.str)) ∧ (ys.map (·.length)).sum + ys.length * a.length ≤ 16777216 ∧ Q (.str (Txt.join a ys)) H) := by
  rintro G H σ ρ n τ a v2 r2 R Q e ⟨ys, hs, hz, hR⟩ k
  obtain ⟨p, vs, rfl, sq, rl⟩ := tmp_seq e.top hs
  have := repL_strs_inv rl
  subst this
  exact ⟨a, p, ys, rfl, rfl, sq, hz, k _ _ _ _ hR (e.pop.pushV (.str _))⟩
theorem snd_split : SndM1 K B gSplit (fun x xs H Q => ∃ a b, x = .str a ∧ xs = [.str b] ∧ (b.length == 0) = false ∧ a.length + 2 ≤ sizeLine ∧ rNewStrs (Txt.split a b) H Q) := by
  rintro G H σ ρ n τ a v2 r2 R Q e ⟨b, rfl, h0, hz, hR⟩ k
  have rv := e.topV
  cases rv
  exact ⟨a, b, rfl, rfl, h0, hz, fun p hp => k _ _ _ _ hR (e.pop.pushNew hp repL_strs)⟩
end
section
variable {X : Cx} {B : Bs} {o e : Expr} {wo we : TD} {apos pos : Pos}
theorem de_m1 {id : String} {name : Str} {r : V → List V → Hp → VK → Prop} {g : GM1} (s : SndM1 X.K B g r) (slot : Slot "str" name id) (ty : typeOf (.builtin id) = pure (.type "method_descriptor")) (rule : MtR X id r) (ho : DE X B o wo) (he : DE X B e we)
    (hs : starEach [e] X.env = [(false, eval e X.env)] := by rfl) (hbase : attributeBase o name X.env (eval o X.env) = eval o X.env := by rfl) (hline : (apos.endLine == pos.line) = true := by rfl) :
    DE X B (.Call (.Attribute o name apos) [e] [] pos) (wM1 g wo we) :=
  PE.imp (pe_m1 slot ty rule ho he hs hbase hline) fun σ H Q ⟨G, ρ, n, τ, Q', ev, hw, k⟩ => ⟨G, ρ, n, τ, _, ev, hw, fun r1 ρ1 n1 v1 G1 H1 ⟨a, hr, h1⟩ e1 => by
    subst hr
    have rv := e1.topV
    cases rv
    exact ⟨⟨_, rfl⟩, G1, ρ1, n1, _, _, e1, h1, fun r2 ρ2 n2 v2 G2 H2 h2 e2 => s _ _ _ _ _ _ _ _ _ _ _ e2 h2 fun r v G' H' hR e3 => by obtain ⟨G'', e4⟩ := EnvOk.mid e3; exact k _ _ _ _ _ _ hR e4⟩⟩
theorem de_m0 {id : String} {name : Str} {g : Str → (D → Prop) → Prop} {f : Str → V} (slot : Slot "str" name id) (ty : typeOf (.builtin id) = pure (.type "method_descriptor")) (rule : MtR X id (fun x xs H Q => ∃ a, x = .str a ∧ xs = [] ∧ True ∧ Q (f a) H))
    (hg : ∀ a R, g a R → ∃ d, R d ∧ ∀ G H, Rep X.K G H (f a) d) (ho : DE X B o wo) (hbase : attributeBase o name X.env (eval o X.env) = eval o X.env := by rfl) (hline : (apos.endLine == pos.line) = true := by rfl) :
    DE X B (.Call (.Attribute o name apos) [] [] pos) (wM0 g wo) :=
  PE.imp (pe_m0 slot ty rule ho hbase hline) fun σ H Q ⟨G, ρ, n, τ, Q', ev, hw, k⟩ => ⟨G, ρ, n, τ, _, ev, hw, fun r1 ρ1 n1 v1 G1 H1 ⟨a, hr, h1⟩ e1 => by
    subst hr
    have rv := e1.topV
    cases rv
    obtain ⟨d, h2, h3⟩ := hg _ _ h1
    exact ⟨⟨_, rfl⟩, _, rfl, rfl, trivial, k _ _ _ _ _ _ h2 (e1.pop.pushV (h3 _ _))⟩⟩
end
/-! ### more on texts -/
def gAddS : G2 := fun r1 r2 R => ∃ i j, r1 = .val (.str i) ∧ r2 = .val (.str j) ∧ i.length + j.length ≤ sizeLine ∧ R (.val (.str (i ++ j)))
def gIxS : G2 := fun r1 r2 R => ∃ z i c, r1 = .val (.str z) ∧ r2 = .val (.int i) ∧ z.length ≤ sizeLine ∧ atI z.cps.toList i = some c ∧ R (.val (.str ⟨#[c]⟩))
def gLenS : G1 := fun rs R => ∃ z, rs = [.val (.str z)] ∧ z.length ≤ sizeLine ∧ R (.val (.int z.length))
def gIntS : G1 := fun rs R => ∃ a n, rs = [.val (.str a)] ∧ PySem.intText? a = some n ∧ a.length ≤ 640 ∧ R (.val (.int n))
def strP : PyData → Str
  | .str x => x
  | p => p.shown
def gStrR : G1 := fun rs R => ∃ r p, rs = [r] ∧ toPyR (dOf r) = some p ∧ showsR p ∧ R (.val (.str (strP p)))
section
variable {K : PySem.W.Frag} {B : Bs}
theorem snd_addS : SndO K B gAddS (fun x y H Q => ∃ i j, x = .str i ∧ y = .str j ∧ i.length + j.length ≤ sizeLine ∧ Q (.str (i ++ j)) H) := by
  rintro G H σ ρ n τ v1 v2 r1 r2 R Q e ⟨i, j, rfl, rfl, hz, hR⟩ k
  have r1 := e.topV
  have r2 := e.pop.topV
  cases r1
  cases r2
  exact ⟨i, j, rfl, rfl, hz, k _ _ _ _ hR (e.pop.pop.pushV (.str _))⟩
theorem snd_lenS : SndC K B gLenS (fun xs H Q => ∃ z, xs = [.str z] ∧ z.length ≤ sizeLine ∧ Q (.int z.length) H) := by
  rintro G H σ ρ n τ vs rs R Q e hl ⟨z, rfl, hz, hR⟩ k
  obtain ⟨v, rfl⟩ := len1 hl
  have e : EnvOk K B.1 B.2 G H σ ρ n (τ ++ [(v, _)]) := e
  have rv := e.topV
  cases rv
  exact ⟨z, rfl, hz, k _ _ _ _ hR (e.pop.pushV (.int _))⟩
theorem snd_intS : SndC K B gIntS (fun xs H Q => ∃ a n, xs = [.str a] ∧ PySem.intText? a = some n ∧ a.length ≤ 640 ∧ Q (.int n) H) := by
  rintro G H σ ρ n τ vs rs R Q e hl ⟨a, m, rfl, hm, hz, hR⟩ k
  obtain ⟨v, rfl⟩ := len1 hl
  have e : EnvOk K B.1 B.2 G H σ ρ n (τ ++ [(v, _)]) := e
  have rv := e.topV
  cases rv
  exact ⟨a, m, rfl, hm, hz, k _ _ _ _ hR (e.pop.pushV (.int _))⟩
def rStrR (K : PySem.W.Frag) : List V → Hp → VK → Prop := fun xs H Q => ∃ v p, xs = [v] ∧ DpR K H v p ∧ showsR p ∧ Q (.str (strP p)) H
theorem snd_strR : SndC K B gStrR (rStrR K) := by
  rintro G H σ ρ n τ vs rs R Q e hl ⟨r, p, rfl, hp, hs, hR⟩ k
  obtain ⟨v, rfl⟩ := len1 hl
  have e : EnvOk K B.1 B.2 G H σ ρ n (τ ++ [(v, r)]) := e
  exact ⟨v, p, rfl, e.top.dpR hp, hs, k _ _ _ _ hR (e.pop.pushV (.str _))⟩
end
section
variable {X : Cx}
theorem call_strR (hg : X.A.guards = some []) (hu : X.A.units + 64 < cLine) : CallR X (.type "str") (rStrR X.K) := by
  intro pins st sl H xs us Q I r hh
  obtain ⟨v, p, rfl, hd, ⟨hs, hnd, hdep, hz⟩, q⟩ := hh
  obtain ⟨u, rfl, ru⟩ := vals1 r
  obtain ⟨as, rd, aw⟩ := DpR.reads I p v u hd ru
  have sl2 : ∀ a : Addr, u = .ref a → wpAny (model X.prog X.w) X.A (call (.type "str") [u]) (fun u' s' => ∃ x H', Inv X pins sl H' s' ∧ RelV x u' ∧ Q x H') X.xe st := fun a e => by
    subst e
    have qq : ∀ h' u' tk, (∀ b o, st.heap.get? b = some o → h'.get? b = some o) → (fun u' s' => ∃ x H', Inv X pins sl H' s' ∧ RelV x u' ∧ Q x H') (Value.str p.shown u') { st with heap := h', toks := tk } := fun h' u' tk hk => by
      refine ⟨.str p.shown, H, I.kept (h' := h') (t' := tk) hk, ⟨_, rfl⟩, ?_⟩
      have : strP p = p.shown := by cases hd <;> first | rfl | (obtain ⟨_, z⟩ := ru; cases z) | cases ru
      rw [← this]; exact q
    refine callType_new F.called_str (by decide) (F.typeCall_str_1 _) (F.newCall_str_1 _) (fun obj => F.args_object_init_2 obj _) F.entry_str_new
      (meets_str_new (S := fun A' R s' => A'.guards = some [] ∧ A'.units + (p.depth + 2) < cLine ∧ (∀ b o, st.heap.get? b = some o → s'.heap.get? b = some o) ∧
        ∀ h' u tk, (∀ b o, s'.heap.get? b = some o → h'.get? b = some o) → R (.ok (.ret (.str p.shown u))) { s' with heap := h', toks := tk })
      fun prog' w' A' R s' h => ?_)
      ⟨hg, by show X.A.units + 1 + (p.depth + 2) < cLine; omega, fun _ _ z => z, fun h' u tk hk => ⟨typeIs_str _ _ _, qq h' u tk hk⟩⟩
    obtain ⟨T, idr, S⟩ := shows_of (prog := prog') (w := w') rd hs aw hnd hz
    exact wpAny_strOf_slot rfl (by show A'.units + 1 + _ < _; have := h.2.1; omega) (S.typeIs s' h.2.2.1) S.slotStr S.slotRepr (S.call A'.in1.in1 _ s' _ h.1 (by show A'.units + 1 + 1 + p.depth < cLine; have := h.2.1; omega) h.2.2.1 fun h' u tk hk => ⟨_, _, rfl, h.2.2.2 h' u tk hk⟩)
  cases hd with
  | non => cases ru; exact PySem.P.str_of_none ⟨.str _, H, I.tok _, ⟨_, rfl⟩, q⟩
  | bl b => cases ru; exact PySem.P.str_of_bool ⟨.str _, H, I.tok _, ⟨_, rfl⟩, by cases b <;> simpa [PyData.shown, strP] using q⟩
  | int i => obtain ⟨t, rfl⟩ := ru; exact PySem.P.str_of_int (by simpa [PyData.showable] using hs) ⟨.str _, H, I.tok _, ⟨_, rfl⟩, by simpa [PyData.shown, strP] using q⟩
  | str x => obtain ⟨t, rfl⟩ := ru; exact PySem.P.str_of_str ⟨.str _, H, I, ⟨_, rfl⟩, q⟩
  | lst _ _ => cases ru; exact sl2 _ rfl
  | tup _ _ => cases ru; exact sl2 _ rfl
  | dct _ => cases ru; exact sl2 _ rfl
end
section
variable {X : Cx} {B : Bs} {a b e : Expr} {wa wb : TD} {pos : Pos}
theorem de_addS (ha : DE X B a wa) (hb : DE X B b wb) : DE X B (.BinOp a .Add b pos) (wOp gAddS wa wb) := de_op snd_addS op_add_str ha hb
theorem de_ixS (ha : DE X B a wa) (hb : DE X B b wb) (hs : PlainIx b) : DE X B (.Subscript a b pos) (wOp gIxS wa wb) :=
  PE.imp (pe_ix ix_str ha hb hs) fun σ H Q ⟨G, ρ, n, τ, Q', ev, hw, k⟩ => ⟨G, ρ, n, τ, _, ev, hw, fun r1 ρ1 n1 v1 G1 H1 h1 e1 => ⟨G1, ρ1, n1, _, _, e1, h1, fun r2 ρ2 n2 v2 G2 H2 ⟨z, i, c, h3, h4, hz, hat, h2⟩ e2 => by
    subst h3
    subst h4
    have q1 := e2.topV
    have q2 := e2.pop.topV
    cases q1
    cases q2
    exact ⟨z, i, c, rfl, rfl, hz, hat, k _ _ _ _ _ _ h2 (e2.pop.pop.pushV (.str _))⟩⟩⟩
def wSlS (wa : TD) (wl wh : TDO) : TD := fun ρ n Q => wa ρ n fun r ρ1 n1 => wl ρ1 n1 fun lo ρ2 n2 => wh ρ2 n2 fun hi ρ3 n3 => ∃ z, r = .val (.str z) ∧ z.length ≤ sizeLine ∧ Q (.val (.str (cutS z lo hi))) ρ3 n3
theorem de_sliceS {lo hi : Option Expr} {wl wh : TDO} {p2 : Pos} (ha : DE X B a wa) (hl : DO X B lo wl) (hh : DO X B hi wh) : DE X B (.Subscript a (.Slice lo hi none p2) pos) (wSlS wa wl wh) :=
  PE.imp (pe_slice sl_str ha hl hh) fun σ H Q ⟨G, ρ, n, τ, Q', e, hw, k⟩ => ⟨G, ρ, n, τ, _, e, hw, fun r ρ1 n1 v G1 H1 h1 e1 => ⟨G1, ρ1, n1, _, _, e1, h1, fun lo ρ2 n2 G2 H2 h2 e2 => ⟨G2, ρ2, n2, _, _, e2, h2, fun hi ρ3 n3 G3 H3 ⟨z, hr, hz, h3⟩ e3 => by
    subst hr
    have rv := e3.topV
    cases rv
    exact ⟨z, rfl, hz, k _ _ _ _ _ _ h3 (e3.pop.pushV (.str _))⟩⟩⟩⟩
/-! f-strings -/
def wFmt (w : TD) : TD := fun ρ n Q => w ρ n fun r ρ1 n1 => (∃ y : Str, r = .val (.str y) ∧ y.length ≤ sizeLine ∧ Q (.val (.str y)) ρ1 n1) ∨ ∃ i : Int, r = .val (.int i) ∧ i.natAbs.log2 < 1920 ∧ Q (.val (.str (toString i))) ρ1 n1
theorem de_fmt (he : DE X B e wa) : DE X B (.FormattedValue e (-1) none pos) (wFmt wa) :=
  PE.imp (pe_fmt he) fun σ H Q ⟨G, ρ, n, τ, Q', ev, hw, k⟩ => ⟨G, ρ, n, τ, _, ev, hw, fun r1 ρ1 n1 v1 G1 H1 h1 e1 => by
    rcases h1 with ⟨y, hr, hz, h2⟩ | ⟨i, hr, hz, h2⟩
    · subst hr
      have rv := e1.topV
      cases rv
      exact .inl ⟨y, rfl, hz, k _ _ _ _ _ _ h2 (e1.pop.pushV (.str _))⟩
    · subst hr
      have rv := e1.topV
      cases rv
      exact .inr ⟨i, rfl, hz, k _ _ _ _ _ _ h2 (e1.pop.pushV (.str _))⟩⟩
def wJs : List TD → Str → List SV → Nat → (Str → List SV → Nat → Prop) → Prop
  | [], acc, ρ, n, Q => Q acc ρ n
  | w :: ws, acc, ρ, n, Q => w ρ n fun r ρ1 n1 => ∃ y, r = .val (.str y) ∧ (acc ++ y).length ≤ sizeLine ∧ wJs ws (acc ++ y) ρ1 n1 Q
inductive DJ (X : Cx) (B : Bs) : List Expr → List TD → Prop where
  | nil : DJ X B [] []
  | cons {e : Expr} {w : TD} {es : List Expr} {ws : List TD} (h : DE X B e w) (r : DJ X B es ws) : DJ X B (e :: es) (w :: ws)
theorem DJ.pj {es : List Expr} {ws : List TD} (h : DJ X B es ws) : PJ X es (ws.map (tD X.K B)) := by
  induction h with
  | nil => exact .nil
  | cons h r ih => exact .cons h ih
theorem tJs_of {K : PySem.W.Frag} {σ : L2.St} {Q : Str → Hp → Prop} : ∀ {ws : List TD} {acc : Str} {H : Hp}, (∃ G ρ n τ Q', EnvOk K B.1 B.2 G H σ ρ n τ ∧ wJs ws acc ρ n Q' ∧ ∀ y ρ' n' G' H', Q' y ρ' n' → EnvOk K B.1 B.2 G' H' σ ρ' n' τ → Q y H') → tJs (ws.map (tD K B)) acc σ H Q
  | [], acc, H, ⟨G, ρ, n, τ, Q', ev, hw, k⟩ => k _ _ _ _ _ hw ev
  | w :: ws, acc, H, ⟨G, ρ, n, τ, Q', ev, hw, k⟩ => ⟨G, ρ, n, τ, _, ev, hw, fun r ρ1 n1 v G1 H1 ⟨y, hr, hz, h1⟩ e1 => by
    subst hr
    have rv := e1.topV
    cases rv
    exact ⟨y, rfl, hz, tJs_of ⟨G1, ρ1, n1, τ, Q', e1.pop, h1, k⟩⟩⟩
def wJoined (ws : List TD) : TD := fun ρ n Q => wJs ws Str.empty ρ n fun y ρ1 n1 => Q (.val (.str y)) ρ1 n1
theorem de_joined {v1 v2 : Expr} {rest : List Expr} {ws : List TD} (h : DJ X B (v1 :: v2 :: rest) ws) : DE X B (.JoinedStr (v1 :: v2 :: rest) pos) (wJoined ws) :=
  PE.imp (pe_joined h.pj) fun σ H Q ⟨G, ρ, n, τ, Q', ev, hw, k⟩ => tJs_of ⟨G, ρ, n, τ, _, ev, hw, fun y ρ' n' G' H' hq e' => k _ _ _ _ _ _ hq (e'.pushV (.str _))⟩
end
end Ly

namespace PySem.W
open PySem PySem.Calls PyProof.Rows
section
variable {A : Around} {s : Shared}
theorem call_tuple_lt {prog : Program} {w : World} {E : Value → Shared → Prop} {Q : Value → Shared → Prop} {l b : Addr} {items items2 : Array Value} {e r : Nat → Bool} (hl : s.heap.IsTuple l items) (hb : s.heap.IsTuple b items2)
    (he : ∀ j (h1 : j < items.size) (h2 : j < items2.size), SeqAt.EqAt A.in1 s items[j] items2[j] (e j)) (hr : ∀ j (h1 : j < items.size) (h2 : j < items2.size), e j = false → SeqAt.RcLt A.in1 s items[j] items2[j] (r j))
    (h : Q (.bool (SeqAt.firstLt e r (decide (items.size < items2.size)) (List.range (min items.size items2.size)))) s) : wpAny (model prog w) A (call (.builtin "tuple.__lt__") [.ref l, .ref b]) Q E s := by
  obtain ⟨⟨cls, dd, data, sl⟩, ho, hc, n, hd⟩ := id hl
  obtain ⟨⟨cls2, dd2, data2, sl2⟩, ho2, hc2, n2, hd2⟩ := id hb
  simp only at hc hd hc2 hd2
  subst hc hd hc2 hd2
  exact call_meets F.slot_tuple_lt ⟨_, ho, rfl⟩ F.entry_tuple_lt (F.args_tuple_lt_2 _ _) (SeqAt.tuple_ltAt l b items items2 n n2 dd dd2 sl sl2 e r) ⟨ho, ho2, he, hr, h⟩
theorem oneLt_tup {prog : Program} {w : World} {E : Value → Shared → Prop} {xs : List PyData} {db : PyData} {a b : Value} {as bs : List Addr} {Q : Bool → Shared → Prop} (ra : Reads s.heap a (.tuple xs) as) (rb : Reads s.heap b db bs) (h : alike (.tuple xs) db = true)
    (hu : A.units + min (PyData.tuple xs).depth db.depth < cLine) (hq : Q (dataLt (.tuple xs) db) s) : wpAny (model prog w) A (oneLt' true a b) Q E s := by
  cases db with
  | tuple ys =>
    have hal : alikeAll xs ys = true := by simpa [alike] using h
    cases ra with
    | @tuple l o vs n _ as₁ h1 h2 h3 h4 =>
      cases rb with
      | @tuple l' o' vs' n' _ bs₁ k1 k2 k3 k4 =>
        have n1 : vs.size = xs.length := by simpa using SeqAt.ReadsAll.length _ _ _ h4
        have n2 : vs'.size = ys.length := by simpa using SeqAt.ReadsAll.length _ _ _ k4
        rw [dataLt_tuple, ← firstLt_toks xs ys hal, ← n1, ← n2] at hq
        rw [oneLt'_eq]
        simp only [if_true]
        refine wpAny_bind (wpAny_cRoomFor (SeqAt.room_here hu) ?_)
        refine wpAny_bind (wpAny_callSpecialIfBound?_slot (T := "tuple") ⟨_, h1, h2⟩ F.slot_tuple_lt (call_tuple_lt (e := SeqAt.pairEq xs ys) (r := fun j => dataLt (xs.getD j .none) (ys.getD j .none)) ⟨_, h1, h2, _, h3⟩ ⟨_, k1, k2, _, k3⟩ (fun j j1 j2 => ?_) (fun j j1 j2 hj => ?_) ?_))
        · have := eqAt_alikeAll xs ys A.in1 s vs.toList vs'.toList _ _ h4 k4 hal (SeqAt.room_in hu) j (by simpa using j1) (by simpa using j2)
          simpa using this
        · have := rcLt_alikeAll xs ys A.in1 s vs.toList vs'.toList _ _ h4 k4 hal (SeqAt.room_in hu) j (by simpa using j1) (by simpa using j2) hj
          simpa using this
        · exact wpAny_truthy_bool hq
  | _ => exact absurd h (by simp [alike])
/-- tuples, the first one empty -/
def SortableE (ds : List PyData) : Prop := (∀ d, d ∈ ds → ∃ xs, d = .tuple xs) ∧ ∃ ds', ds = .tuple [] :: ds'
theorem typesO {M : Model} {E : Value → Shared → Prop} : ∀ (vs : List Value) (fs : List (Option Value)) {Q : List Value → Shared → Prop}, TupsO s.heap vs fs → Q (vs.map fun _ => Value.type "tuple") s → wpAny M A (vs.mapM typeOf) Q E s
  | [], [], _, _, h => by rw [List.mapM_nil]; exact wpAny_pure h
  | [], _ :: _, _, t, _ => t.elim
  | _ :: _, [], _, t, _ => t.elim
  | v :: vs, f :: fs, Q, t, h => by
    obtain ⟨⟨a, o, xs, n, rfl, ho, hc, hd, hf⟩, t⟩ := t
    rw [List.mapM_cons]
    refine wpAny_bind ?_
    refine Looks.here (show Looks M s.heap (typeOf (.ref a)) o.cls from (Looks.ld ho).andThen .now) ?_
    rw [hc]
    exact wpAny_bind (typesO vs fs (Q := fun bs s' => wpAny M A (pure (Value.type "tuple" :: bs)) Q E s') t (wpAny_pure h))
theorem kind_empty {M : Model} {E : Value → Shared → Prop} {vs : List Value} {fs : List (Option Value)} {Q : SortKind → Shared → Prop} (t : TupsO s.heap vs fs) (h1 : ∃ r, fs = none :: r) (h : Q oneType' s) : wpAny M A (keyKind' vs.toArray) Q E s := by
  obtain ⟨r, rfl⟩ := h1
  rw [kat_kind_eq, List.mapM_toArray, map_eq_pure_bind]
  refine wpAny_bind (wpAny_bind (firstsO vs _ t (wpAny_pure ?_)))
  rw [if_neg (by simp), if_neg (by simp)]
  refine wpAny_bind ?_
  rw [oneTypeOnly'_eq, List.mapM_toArray, map_eq_pure_bind]
  refine wpAny_bind (wpAny_bind (typesO vs _ t (wpAny_pure ?_)))
  cases vs with
  | nil => exact t.elim
  | cons v vs =>
    have h0 : ((v :: vs).map fun _ => Value.type "tuple").toArray[0]? = some (Value.type "tuple") := by simp
    rw [h0]
    have hall : (((v :: vs).map fun _ => Value.type "tuple").toArray.all fun x => x == Value.type "tuple") = true := by
      simp only [List.all_toArray, List.all_map, List.all_eq_true]
      intro _ _
      rfl
    simp only [hall, if_true]
    refine wpAny_pure ?_
    exact wpAny_pure h
theorem SortsAt.empty {prog : Program} {w : World} {vs : List Value} {ds : List PyData} (e : PySem.W.EachIs (fun v d => ∃ as, Reads s.heap v d as) vs ds) (hal : AllAlike ds) (hk : SortableE ds) (hu : ∀ d, d ∈ ds → A.units + d.depth < cLine) : SortsAt prog w A s (dataKind s.heap ds) vs := by
  have room : ∀ {d d' : PyData}, d ∈ ds → A.units + min d.depth d'.depth < cLine := fun {d d'} hd => Nat.lt_of_le_of_lt (Nat.add_le_add_left (Nat.min_le_left _ _) _) (hu d hd)
  refine ⟨fun v hv => ?_, oneType', ?_, fun h2 E Q hq => ?_⟩
  · obtain ⟨d, hd, as, r⟩ := e.left v hv
    exact ⟨_, dataKind_some hal hd r⟩
  · intro E x y a b Q ha hb hq
    obtain ⟨d, as, hd, ra, rfl⟩ := dataKind_inv ha
    obtain ⟨d', as', hd', rb, rfl⟩ := dataKind_inv hb
    rw [keyLt'_oneType]
    obtain ⟨xs, rfl⟩ := hk.1 d hd
    exact oneLt_tup ra rb (hal _ hd d' hd') (room hd) hq
  · obtain ⟨fs, t1, t2, t3⟩ := each_tupsO e hk.1
    obtain ⟨ds', e'⟩ := hk.2
    subst e'
    cases e with
    | cons r0 rest =>
      obtain ⟨as, r0⟩ := r0
      cases fs with
      | nil => exact t1.elim
      | cons f fr =>
        refine kind_empty t1 ⟨fr, ?_⟩ hq
        obtain ⟨⟨a, o, xs, n, rfl, ho, hc, hd, hf⟩, _⟩ := t1
        cases r0 with
        | @tuple a' o' xs' n' _ _ ho' hc' hd' hr' =>
          rw [ho'] at ho
          cases ho
          rw [hd'] at hd
          cases hd
          have e2 : xs.toList = [] := by cases q : xs.toList with
            | nil => rfl
            | cons _ _ => rw [q] at hr'; cases hr'
          rw [← hf, ← Array.getElem?_toList, e2]; rfl
end
end PySem.W
namespace Ly
open PySem PySem.Spec PyProof.Rows L2
def rSortE (K : PySem.W.Frag) : List V → Hp → VK → Prop := fun vs H Q => ∃ a xs ps, vs = [V.ref a] ∧ SqL K H a xs ∧ DpAll K H xs ps ∧ PySem.W.AllAlike ps ∧ PySem.W.SortableE ps ∧ (∀ p ∈ ps, p.depth ≤ 60) ∧
  ∀ p', H p' = none → Q (.ref p') (upd H p' (.lst (((xs.zip ps).mergeSort keyLeP).map Prod.fst)))
section
variable {X : Cx}
theorem call_sortE (hu : X.A.units + 64 < cLine) : CallR X (.builtin "sorted") (rSortE X.K) := by
  intro pins s σ H vs us Q I r h
  obtain ⟨a, xs, ps, rfl, hs, hd, hal, hsr, hdep, q⟩ := h
  obtain ⟨its, rv, hl, hz⟩ := I.list hs
  obtain ⟨u, rfl, ru⟩ := vals1 r
  obtain rfl : u = Value.ref a := ru
  have ee := dp_each I hd rv
  have le : its.length = ps.length := ee.length
  have lx : xs.length = ps.length := rv.length.trans le
  have ee' : PySem.W.EachIs (fun u p => ∃ as, Reads (PySem.W.sortingHeap (PySem.W.copyHeap s.heap its) (s.heap.objs.size + 1) its) u p as) its ps := ee.mono fun u p => fun ⟨as, z⟩ => ⟨as, Reads.keeps (fun b o e => PySem.W.sorting_copy_old e) z⟩
  have hu2 : ∀ p ∈ ps, X.A.in1.in1.units + p.depth < cLine := fun p hp => by
    have := hdep p hp
    have e1 : X.A.in1.in1.units ≤ X.A.units + 2 := by simp only [Around.in1_units]; omega
    omega
  have S : PySem.W.SortsAt X.prog X.w X.A.in1.in1 { s with heap := PySem.W.sortingHeap (PySem.W.copyHeap s.heap its) (s.heap.objs.size + 1) its } (PySem.W.dataKind (PySem.W.sortingHeap (PySem.W.copyHeap s.heap its) (s.heap.objs.size + 1) its) ps) its := by
    exact PySem.W.SortsAt.empty ee' hal hsr hu2
  have hout := PySem.W.sortVals_each (R := fun u (q : V × PyData) => RelV q.1 u) (rev := false) (κ := PySem.W.dataKind (PySem.W.sortingHeap (PySem.W.copyHeap s.heap its) (s.heap.objs.size + 1) its) ps) (fun q : V × PyData => PySem.W.keyToks q.2) (vals_each rv lx) (each_key hal (fun p hp => hp) lx ee')
  have hv := each_vals hout
  refine PySem.W.sorted_vals hl.isList S (by rw [← rv.length]; exact hz) ?_
  obtain ⟨e, he⟩ := sortedAll_at s.heap its (PySem.W.sortVals (PySem.W.dataKind (PySem.W.sortingHeap (PySem.W.copyHeap s.heap its) (s.heap.objs.size + 1) its) ps) false its its).toArray
  have hsz : s.heap.objs.size ≤ s.heap.objs.size + 1 := Nat.le_succ _
  refine ⟨.ref (s.heap.objs.size + 1), _, I.laid (t' := s.toks) (a := s.heap.objs.size + 1) (o := .lst (((xs.zip ps).mergeSort keyLeP).map Prod.fst)) (fun b o => sortedAll_old) hsz ⟨?_, _, e, hv, he⟩, rfl, q _ (I.hok.fresh hsz)⟩
  rw [List.length_map, (List.mergeSort_perm _ _).length_eq, List.length_zip, lx, Nat.min_self, ← lx]
  exact hz
end
section
variable {B : Bs} {K : PySem.W.Frag}
def gSortE : G1 := fun rs R => ∃ r l ps, rs = [r] ∧ listOf r = some l ∧ toPys l = some ps ∧ PySem.W.AllAlike ps ∧ PySem.W.SortableE ps ∧ (∀ p ∈ ps, p.depth ≤ 60) ∧ R (.new (sortD l))
theorem snd_sortE : SndC K B gSortE (rSortE K) := by
  rintro G H σ ρ n τ vs rs R Q e hl ⟨r, l, ps, rfl, hr, hp, h1, h2, h3, hR⟩ k
  obtain ⟨v, rfl⟩ := len1 hl
  have e : EnvOk K B.1 B.2 G H σ ρ n (τ ++ [(v, r)]) := e
  obtain ⟨a, ws, rfl, sq, rl⟩ := tmp_list e.top hr
  refine ⟨a, ws, ps, rfl, SqL.of sq, RepL.dp rl hp, h1, h2, h3, fun p' hn => k _ _ _ _ hR (e.pop.pushNew hn ?_)⟩
  refine each_rep (P := fun q d => PySem.W.keyToks q.2 = keyOfD d) (PySem.W.sort_each (rep_each rl hp) fun x hx y hy => ?_)
  have z1 := (((rep_each rl hp).zip x hx).2)
  have z2 := (((rep_each rl hp).zip y hy).2)
  unfold keyLeP leD PySem.W.sortLe
  dsimp only
  rw [z1, z2]

end
def srtE (l : List D) : Bool := match toPys l with
  | some ps => (ps.all fun p => ps.all fun q => PySem.W.alike p q) && (ps.all tupB && (match ps with | p :: _ => tupEB p | [] => false)) && ps.all fun p => decide (p.depth ≤ 60)
  | none => false
theorem gSortE_of {r : RV} {l s : List D} {R : RV → Prop} (hl : listOf r = some l) (h : srtE l = true) (hs : sortD l = s) (q : R (.new s)) : gSortE [r] R := by
  unfold srtE at h
  split at h
  · rename_i ps e
    simp only [Bool.and_eq_true, List.all_eq_true, decide_eq_true_eq] at h
    obtain ⟨⟨h1, h2, h4⟩, h3⟩ := h
    refine ⟨r, l, ps, rfl, hl, e, fun d hd d' hd' => h1 d hd d' hd', ⟨fun d hd => ?_, ?_⟩, h3, by rw [hs]; exact q⟩
    · have := h2 d hd
      unfold tupB at this
      split at this
      · exact ⟨_, rfl⟩
      · cases this
    · split at h4
      · rename_i p ps'
        unfold tupEB at h4
        split at h4
        · exact ⟨_, rfl⟩
        · cases h4
      · cases h4
  · cases h
end Ly

namespace PySem
open Sem (wp)
open PySem.Calls PyProof.Rows
open PySem.SeqAt PySem.MeetsSeq
section
variable {A : Around} {s : Shared}
theorem str_eq_declines_dict (b : Str) (u : Tok) (l : Addr) (c : Value) (es : Array DictEntry) (n : Nat) (dd : Option Addr) (sl : Array (Option Value)) :
    Meets (Builtin.«str.__eq__» ⟨[.str b u, .ref l], []⟩) (fun _ R s => s.heap.get? l = some { cls := c, dict := dd, data := .dict es n, slots := sl } ∧ R (.ok (.ret .notImplemented)) s) :=
  .of_wp fun prog w A R s h => by obtain ⟨hp, g, d, tk, os⟩ := s; obtain ⟨hl, h⟩ := h; wp_walk using wpAny_loadPart' hl, wpAny_load hl; exact ⟨_, rfl, h⟩
theorem dict_eq_declines_str (l : Addr) (es : Array DictEntry) (n : Nat) (dd : Option Addr) (sl : Array (Option Value)) (b : Str) (u : Tok) :
    Meets (Builtin.«dict.__eq__» ⟨[.ref l, .str b u], []⟩) (fun _ R s => s.heap.get? l = some { cls := .type "dict", dict := dd, data := .dict es n, slots := sl } ∧ R (.ok (.ret .notImplemented)) s) :=
  .of_wp fun prog w A R s h => by
    obtain ⟨hp, g, d, tk, os⟩ := s
    obtain ⟨hl, h⟩ := h
    wp_walk using wpAny_loadPart' hl, wpAny_load hl
    show wpAny _ _ _ _ _ _
    rw [F.sub_str_dict]
    refine wpAny_pure ?_
    rw [if_pos (by rfl)]
    refine wpAny_bind (wpAny_rule ?_)
    exact wpAny_pure ⟨_, rfl, h⟩
theorem RcAt.str_dict {l : Addr} {o : Obj} {es : Array DictEntry} {n : Nat} (b : Str) (u : Tok) (ho : s.heap.get? l = some o) (hc : o.cls = .type "dict") (hd : o.data = .dict es n) (hu : A.units < cLine) : RcAt A s (.str b u) (.ref l) false := fun prog w E Q h => by
  obtain ⟨cls, dd, data, sl⟩ := o
  simp only at hc hd
  subst hc hd
  exact rc_eq_decline_or (k := false) (typeIs_str s b u) ⟨_, ho, rfl⟩ (by decide) F.sub_dict_str F.slot_str_eq F.slot_dict_eq_refl
    (fun _ hq => call_meets F.slot_str_eq (typeIs_str s b u) F.entry_str_eq (F.args_str_eq_2 _ _) (str_eq_declines_dict b u l (.type "dict") es n dd sl) ⟨ho, hq⟩)
    (fun _ hq => call_meets F.slot_dict_eq_refl ⟨_, ho, rfl⟩ F.entry_dict_eq (F.args_dict_eq_2 _ _) (dict_eq_declines_str l es n dd sl b u) ⟨ho, hq⟩)
    (fun _ hq => wpAny_of_eq (rfl : isSame (.str b u) (.ref l) = pure false) hq) (.inr hu) h
theorem EqAt.str_dict {l : Addr} {o : Obj} {es : Array DictEntry} {n : Nat} (b : Str) (u : Tok) (ho : s.heap.get? l = some o) (hc : o.cls = .type "dict") (hd : o.data = .dict es n) (hu : A.units < cLine) : EqAt A s (.str b u) (.ref l) false := fun prog w E Q h => by
  unfold eqBool
  refine wpAny_holding ?_
  refine wpAny_ite_split (fun hab => absurd (eq_of_beq hab) nofun) (fun _ => ?_)
  exact wpAny_bind (RcAt.str_dict b u ho hc hd hu prog w E _ (wpAny_truthy_bool h))
end
end PySem
namespace Ly
open PySem PySem.Spec PyProof.Rows L2
/-! ### an empty dict in a tuple of texts that the top holds -/
theorem dpStrs {K : PySem.W.Frag} {H : Hp} : ∀ {ss : List Str} {vs : List V}, DpAll K H vs (ss.map PyData.str) → vs = ss.map V.str
  | [], [], _ => rfl
  | [], _ :: _, h => by cases h
  | _ :: _, [], h => by cases h
  | y :: ys, v :: vs, h => by
    have h : DpAll K H (v :: vs) (.str y :: ys.map PyData.str) := h
    cases h with
    | cons r rm => cases r; rw [dpStrs rm]; rfl
def rInDc (q : Addr) (neg : Bool) : R2 := fun x y H Q => ∃ a, x = .ref a ∧ y = .ref q ∧ (H a = some (.dK []) ∨ ∃ vs, H a = some (.tup vs)) ∧ Q (.bl neg) H
theorem strs_eqAt {A : Around} {s : Shared} {l : Addr} (hh : ∀ (b : Str) (u : Tok), SeqAt.EqAt A s (.str b u) (.ref l) false) : ∀ {ss : List Str} {us : List Value}, Vals (ss.map V.str) us → ∀ u ∈ us, SeqAt.EqAt A s u (.ref l) false
  | [], _, .nil => fun u h => by cases h
  | _ :: ss, _, .cons r t => fun u h => by
    rcases List.mem_cons.mp h with rfl | h
    · obtain ⟨t, rfl⟩ := r
      exact hh _ _
    · exact strs_eqAt hh t u h
section
variable {X : Cx} {q : Addr} {ss : List Str}
theorem str_eqDc {pins : List (Addr × Obj)} {σ : L2.St} {H : Hp} {s : Shared} (I : Inv X pins σ H s) {a : Addr} (h : H a = some (.dK []) ∨ ∃ vs, H a = some (.tup vs)) {A : Around} (hu : A.units < cLine) (b : Str) (u : Tok) : SeqAt.EqAt A s (.str b u) (.ref a) false := by
  rcases h with h | ⟨vs, h⟩
  · obtain ⟨_, hs, vs, kv, o, es, ep, ho, hx, hd, _⟩ := I.hok _ _ h
    exact PySem.EqAt.str_dict _ _ ho hx.1 hd hu
  · obtain ⟨its, r, pl, hz⟩ := I.tuple (SqT.of h)
    exact SeqAt.EqAt.str_tuple b u pl hu
theorem op_inDc (hu : X.A.units + 65 < cLine) (hk : ∀ H, Dp X.K H (.ref q) (.tuple (ss.map .str))) : OpR X (compareOp .In) (rInDc q false) := by
  intro pins s σ H x y v u Q I rx ry h
  obtain ⟨a, rfl, rfl, ha, qq⟩ := h
  cases rx
  cases ry
  cases hk H with
  | @tup _ vs2 _ hq hall =>
    have e := dpStrs hall
    subst e
    obtain ⟨its, r, pl, hz⟩ := I.tuple hq
    refine SeqAt.in_tupleAt (fun _ => false) pl (fun w hw => strs_eqAt (str_eqDc I ha (by simp only [Around.in1_units]; omega)) r w (by simpa using hw)) ⟨.bl false, H, I, ?_, qq⟩
    show Value.bool _ = Value.bool false
    simp
theorem op_ninDc (hu : X.A.units + 65 < cLine) (hk : ∀ H, Dp X.K H (.ref q) (.tuple (ss.map .str))) : OpR X (compareOp .NotIn) (rInDc q true) := by
  intro pins s σ H x y v u Q I rx ry h
  obtain ⟨a, rfl, rfl, ha, qq⟩ := h
  cases rx
  cases ry
  cases hk H with
  | @tup _ vs2 _ hq hall =>
    have e := dpStrs hall
    subst e
    obtain ⟨its, r, pl, hz⟩ := I.tuple hq
    refine SeqAt.notIn_tupleAt (fun _ => false) pl (fun w hw => strs_eqAt (str_eqDc I ha (by simp only [Around.in1_units]; omega)) r w (by simpa using hw)) ⟨.bl true, H, I, ?_, qq⟩
    show Value.bool _ = Value.bool true
    simp
end
def wInG2 (neg : Bool) (ss : List Str) (w : TD) : TD := fun ρ n Q => w ρ n fun r ρ1 n1 => (∃ p, toPy (dOf r) = some p ∧ SeqAt.shaped p = true ∧ Q (.val (.bl (xor neg ((ss.map PyData.str).any fun z => PyData.eqv z p)))) ρ1 n1) ∨ ((r = .val .dc0 ∨ ∃ l, r = .val (.tup l)) ∧ Q (.val (.bl neg)) ρ1 n1)
section
variable {X : Cx} {B : Bs} {a : Expr} {x : Str} {p pos : Pos} {wa : TD}
theorem tInG2_of {K : PySem.W.Frag} {neg : Bool} {ss : List Str} {q : Addr} (hk : ∀ H, Dp K H (.ref q) (.tuple (ss.map .str))) (hs : SeqAt.shaped (.list (ss.map PyData.str)) = true) {σ : L2.St} {H : Hp} {Q : VK} (h : tD K B (wInG2 neg ss wa) σ H Q) :
    tOp (fun x y H Q => rInQ K neg x y H Q ∨ rInDc q neg x y H Q) (tD K B wa) (tC (.ref q)) σ H Q := by
  obtain ⟨G, ρ, n, τ, Q', e, hw, k⟩ := h
  refine ⟨G, ρ, n, τ, _, e, hw, fun r ρ1 n1 v G1 H1 h0 e1 => ?_⟩
  rcases h0 with ⟨d, h1, h2, h3⟩ | ⟨hr, h3⟩
  · exact .inl ⟨d, _, e1.top.dp h1, .inr (hk H1), h2, hs, k _ _ _ _ _ _ h3 (e1.pop.pushV (.bl _))⟩
  · rcases hr with hr | ⟨l, hr⟩
    · subst hr
      have rv := e1.topV
      cases rv with
      | dc0 g ha => exact .inr ⟨_, rfl, rfl, .inl ha, k _ _ _ _ _ _ h3 (e1.pop.pushV (.bl _))⟩
    · subst hr
      have rv := e1.topV
      cases rv with
      | tup ha _ => exact .inr ⟨_, rfl, rfl, .inr ⟨_, ha⟩, k _ _ _ _ _ _ h3 (e1.pop.pushV (.bl _))⟩
theorem de_inG2 {ss : List Str} (hu : X.A.units + 65 < cLine) (T : GTup X.K X.mg x ss) (hg : Gl X x) (ha : DE X B a wa) (hd : (x == ("__debug__" : Str)) = false := by decide) (hm : behindInMarks .In (.Name x p) = false := by rfl) : DE X B (.Compare a [.In] [.Name x p] pos) (wInG2 false ss wa) := by
  obtain ⟨q, h1, h2⟩ := T.ex
  exact PE.imp (pe_cmpR ((op_inQ hu).or (op_inDc hu h2)) ha (pe_glob (v := .ref q) hg h1 rfl hd) hm) fun _ _ _ h => tInG2_of h2 T.ok h
theorem de_ninG2 {ss : List Str} (hu : X.A.units + 65 < cLine) (T : GTup X.K X.mg x ss) (hg : Gl X x) (ha : DE X B a wa) (hd : (x == ("__debug__" : Str)) = false := by decide) (hm : behindInMarks .NotIn (.Name x p) = false := by rfl) : DE X B (.Compare a [.NotIn] [.Name x p] pos) (wInG2 true ss wa) := by
  obtain ⟨q, h1, h2⟩ := T.ex
  exact PE.imp (pe_cmpR ((op_ninQ hu).or (op_ninDc hu h2)) ha (pe_glob (v := .ref q) hg h1 rfl hd) hm) fun _ _ _ h => tInG2_of h2 T.ok h
theorem dt_inG2 {ss : List Str} (hu : X.A.units + 65 < cLine) (T : GTup X.K X.mg x ss) (hg : Gl X x) (ha : DE X B a wa) (hd : (x == ("__debug__" : Str)) = false := by decide) (hm : behindInMarks .In (.Name x p) = false := by rfl) : DT X B (.Compare a [.In] [.Name x p] pos) (wTst (wInG2 false ss wa)) := by
  obtain ⟨q, h1, h2⟩ := T.ex
  exact PT.imp (pt_cmpR ((op_inQ hu).or (op_inDc hu h2)) ha (pe_glob (v := .ref q) hg h1 rfl hd) hm) fun _ _ _ h => tTest_of (fun _ _ _ h => tInG2_of h2 T.ok h) h
theorem dt_ninG2 {ss : List Str} (hu : X.A.units + 65 < cLine) (T : GTup X.K X.mg x ss) (hg : Gl X x) (ha : DE X B a wa) (hd : (x == ("__debug__" : Str)) = false := by decide) (hm : behindInMarks .NotIn (.Name x p) = false := by rfl) : DT X B (.Compare a [.NotIn] [.Name x p] pos) (wTst (wInG2 true ss wa)) := by
  obtain ⟨q, h1, h2⟩ := T.ex
  exact PT.imp (pt_cmpR ((op_ninQ hu).or (op_ninDc hu h2)) ha (pe_glob (v := .ref q) hg h1 rfl hd) hm) fun _ _ _ h => tTest_of (fun _ _ _ h => tInG2_of h2 T.ok h) h
end
/-! ### a list turned round, a list times an int -/
def wRevL (wa : TD) : TD := fun ρ n Q => wa ρ n fun r ρ1 n1 => ∃ l, listOf r = some l ∧ Q (.new l.reverse) ρ1 n1
section
variable {X : Cx} {B : Bs} {a : Expr} {wa : TD} {k : Nat} {p1 p2 p3 pos : Pos}
theorem de_revL (ha : DE X B a wa) : DE X B (.Subscript a (.Slice none none (some (.UnaryOp .USub (.Constant (.int 1) k p1) p2)) p3) pos) (wRevL wa) :=
  PE.imp (pe_revL ha) fun σ H Q ⟨G, ρ, n, τ, Q', e, hw, kk⟩ => ⟨G, ρ, n, τ, _, e, hw, fun r ρ1 n1 v G1 H1 ⟨l, hr, h1⟩ e1 => by
    obtain ⟨p, vs, rfl, hp, rl⟩ := tmp_list e1.top hr
    exact ⟨p, vs, rfl, SqL.of hp, fun q hq => kk _ _ _ _ _ _ h1 (e1.pop.pushNew hq rl.reverse)⟩⟩
end
/-! ### texts compared -/
def gLtS : G2 := fun r1 r2 R => ∃ i j, r1 = .val (.str i) ∧ r2 = .val (.str j) ∧ R (.val (.bl (decide (i.cps.toList < j.cps.toList))))
def gGeS : G2 := fun r1 r2 R => ∃ i j, r1 = .val (.str i) ∧ r2 = .val (.str j) ∧ R (.val (.bl (!decide (i.cps.toList < j.cps.toList))))
section
variable {K : PySem.W.Frag} {B : Bs}
theorem snd_ltS : SndO K B gLtS (fun x y H Q => ∃ i j, x = .str i ∧ y = .str j ∧ Q (.bl (decide (i.cps.toList < j.cps.toList))) H) := by
  rintro G H σ ρ n τ v1 v2 r1 r2 R Q e ⟨i, j, rfl, rfl, hR⟩ k
  have q1 := e.topV
  have q2 := e.pop.topV
  cases q1
  cases q2
  exact ⟨i, j, rfl, rfl, k _ _ _ _ hR (e.pop.pop.pushV (.bl _))⟩
theorem snd_geS : SndO K B gGeS (fun x y H Q => ∃ i j, x = .str i ∧ y = .str j ∧ Q (.bl (!decide (i.cps.toList < j.cps.toList))) H) := by
  rintro G H σ ρ n τ v1 v2 r1 r2 R Q e ⟨i, j, rfl, rfl, hR⟩ k
  have q1 := e.topV
  have q2 := e.pop.topV
  cases q1
  cases q2
  exact ⟨i, j, rfl, rfl, k _ _ _ _ hR (e.pop.pop.pushV (.bl _))⟩
end
section
variable {X : Cx} {B : Bs} {a b : Expr} {wa wb : TD} {pos : Pos}
theorem de_ltS (ha : DE X B a wa) (hb : DE X B b wb) (hm : behindInMarks .Lt b = false := by rfl) : DE X B (.Compare a [.Lt] [b] pos) (wOp gLtS wa wb) := de_cmp snd_ltS op_lt_str ha hb hm
theorem dt_ltS (ha : DE X B a wa) (hb : DE X B b wb) (hm : behindInMarks .Lt b = false := by rfl) : DT X B (.Compare a [.Lt] [b] pos) (wTst (wOp gLtS wa wb)) := dt_cmp snd_ltS op_lt_str ha hb hm
theorem de_geS (ha : DE X B a wa) (hb : DE X B b wb) (hm : behindInMarks .GtE b = false := by rfl) : DE X B (.Compare a [.GtE] [b] pos) (wOp gGeS wa wb) := de_cmp snd_geS op_ge_str ha hb hm
theorem dt_geS (ha : DE X B a wa) (hb : DE X B b wb) (hm : behindInMarks .GtE b = false := by rfl) : DT X B (.Compare a [.GtE] [b] pos) (wTst (wOp gGeS wa wb)) := dt_cmp snd_geS op_ge_str ha hb hm
end
end Ly

namespace Ly
open PySem PySem.Spec PyProof.Rows L2
/-! ### a name's list as a test -/
def wTruN (i : Nat) : TDT := fun ρ n Q => ∃ s l, ρ[i]? = some s ∧ seqS s = some l ∧ Q (!l.isEmpty) ρ n
section
variable {X : Cx} {B : Bs}
theorem dt_truN {i : Nat} {a : Expr} (ha : PE X a (tVar i)) (he : ∀ whole, isTrue a X.env whole = (do let v ← whole; standAt a.pos; holding [v] (truthy v)) := by intro _; rfl) : DT X B a (wTruN i) :=
  PT.imp (pt_truth ha he) fun σ H Q ⟨G, ρ, n, τ, Q', e, ⟨s, l, hs, hl, h1⟩, k⟩ => by
    obtain ⟨a, vs, ev, sq, rl⟩ := slot_seq (e.sl i s hs) hl
    refine ⟨_, ev, !l.isEmpty, ?_, k _ _ _ _ _ h1 e⟩
    have hem : l.isEmpty = vs.isEmpty := by
      cases rl <;> rfl
    rcases sq with sq | sq
    · exact .inl ⟨vs, sq, by rw [hem]⟩
    · exact .inr (.inl ⟨vs, sq, by rw [hem]⟩)
end
end Ly

namespace Ly
open PySem PySem.Spec PyProof.Rows L2
/-! ### what the drawing defs promise -/
def ret (n cost : Nat) (P : D → Prop) (Q : D → Nat → Prop) : Prop := n + cost ≤ 1000000000000 ∧ ∀ d n', P d → n ≤ n' → n' ≤ n + cost → Q d n'
def rowD (r : List Int) : D := .tup (r.map .int)
theorem rowD_def {r : List Int} : rowD r = .tup (r.map .int) := rfl
def mvD (mv : List (List Int)) : List D := mv.map rowD
def tlD (tl : List Int) : List D := tl.map .int
theorem mvD_len {mv : List (List Int)} : (mvD mv).length = mv.length := List.length_map ..
theorem tlD_len {tl : List Int} : (tlD tl).length = tl.length := List.length_map ..
theorem mv_at {mv : List (List Int)} {k : Nat} (h : k < mv.length) : atI (mvD mv) (k : Int) = some (rowD mv[k]) := by
  have : (mvD mv)[k]? = some (rowD mv[k]) := by unfold mvD; rw [List.getElem?_map, List.getElem?_eq_getElem h]; rfl
  exact atI_nat this
theorem mv_at0 {mv : List (List Int)} (h : 0 < mv.length) : atI (mvD mv) 0 = some (rowD mv[0]) := mv_at (k := 0) h
theorem int_at {tl : List Int} {k : Nat} (h : k < tl.length) : atI (tl.map D.int) (k : Int) = some (.int tl[k]) := by
  have : (tl.map D.int)[k]? = some (.int tl[k]) := by rw [List.getElem?_map, List.getElem?_eq_getElem h]; rfl
  exact atI_nat this
theorem tl_at {tl : List Int} {k : Nat} (h : k < tl.length) : atI (tlD tl) (k : Int) = some (.int tl[k]) := int_at h
theorem fdivN (a b : Nat) : (a : Int).fdiv (b : Int) = ((a / b : Nat) : Int) := by rw [Int.fdiv_eq_ediv_of_nonneg _ (by omega)]; rfl
theorem fmodN (a b : Nat) : (a : Int).fmod (b : Int) = ((a % b : Nat) : Int) := by rw [Int.fmod_eq_emod_of_nonneg _ (by omega)]; rfl
theorem tlD_cut {tl : List Int} {k : Nat} {x : Int} : (tlD tl).take k ++ [.int x] ++ (tlD tl).drop (k + 1) = tlD (tl.take k ++ [x] ++ tl.drop (k + 1)) := by
  unfold tlD
  rw [List.map_append, List.map_append, List.map_take, List.map_drop]; rfl
theorem int_cut {tl : List Int} {k : Nat} {x : Int} : (tl.map D.int).take k ++ [.int x] ++ (tl.map D.int).drop (k + 1) = (tl.take k ++ [x] ++ tl.drop (k + 1)).map .int := tlD_cut
theorem mvD_cut {mv : List (List Int)} {k : Nat} {r : List Int} : (mvD mv).take k ++ [rowD r] ++ (mvD mv).drop (k + 1) = mvD (mv.take k ++ [r] ++ mv.drop (k + 1)) := by
  unfold mvD
  rw [List.map_append, List.map_append, List.map_take, List.map_drop]; rfl
theorem cut_len {α : Type} {l : List α} {k : Nat} {x : α} (h : k < l.length) : (l.take k ++ [x] ++ l.drop (k + 1)).length = l.length := by
  simp only [List.length_append, List.length_take, List.length_drop, List.length_cons, List.length_nil]; omega
theorem cut_mem {α : Type} {l : List α} {k : Nat} {x y : α} (h : y ∈ l.take k ++ [x] ++ l.drop (k + 1)) : y ∈ l ∨ y = x := by
  rcases List.mem_append.mp h with h | h
  · rcases List.mem_append.mp h with h | h
    · exact .inl (List.mem_of_mem_take h)
    · simp at h; exact .inr h
  · exact .inl (List.mem_of_mem_drop h)
/-- a machine: of m kinds of letters, s states, that tells numbers to t -/
def Mach (m s : Nat) (t : Int) (d : D) : Prop := ∃ (mv : List (List Int)) (tl : List Int), d = .tup [.tup (mvD mv), .tup (tlD tl)] ∧ mv.length = s ∧ tl.length = s ∧
  (∀ r ∈ mv, r.length = m ∧ ∀ x ∈ r, 0 ≤ x ∧ x < (s : Int)) ∧ ∀ x ∈ tl, 0 ≤ x ∧ x ≤ t
def c_law_bag : Ctr := fun ds n Q => ∃ ns, ds = [.scr ns] ∧ ns.length ≤ 63 ∧ ∀ a, Q (.bag a) n
def c_law_draw : Ctr := fun ds n Q => ∃ a m, ds = [.bag a, .int m] ∧ 1 ≤ m ∧ m ≤ 1000000 ∧ ret n 1 (fun d => ∃ k, d = .int k ∧ 0 ≤ k ∧ k < m) Q
def c_law_pick : Ctr := fun ds n Q => ∃ a s l, ds = [.bag a, s] ∧ seqOf (.val s) = some l ∧ 1 ≤ l.length ∧ l.length ≤ 1000000 ∧ ret n 1 (fun d => d ∈ l) Q
def smallNames : List Str := ["holds", "next", "begins", "sorted"]
def c_law_known : Ctr := fun ds n Q => ∃ x, ∃ m : Nat, ds = [.str x, .int m] ∧ 1 ≤ m ∧ m ≤ 3 ∧ ret n 0 (fun d => ∃ s, 1 ≤ s ∧ s ≤ 4 ∧ Mach m s 3 d ∧ (x ∈ smallNames → Mach m s 1 d)) Q
def theNames : List Str := ["begins", "count", "ends", "holds", "length", "next", "parity", "sorted"]
def c_law_names : Ctr := fun ds n Q => ds = [] ∧ Q (.lst (theNames.map .str)) n
def c_law_any : Ctr := fun ds n Q => ∃ a, ∃ s m : Nat, ∃ t : Int, ds = [.bag a, .int s, .int m, .int t] ∧ 1 ≤ s ∧ s ≤ 24 ∧ 1 ≤ m ∧ m ≤ 3 ∧ 0 ≤ t ∧ t ≤ 99 ∧ ret n 200 (Mach m s t) Q
def c_law_growing : Ctr := fun ds n Q => ∃ a, ∃ s m : Nat, ∃ t : Int, ds = [.bag a, .int s, .int m, .int t] ∧ 1 ≤ s ∧ s ≤ 24 ∧ 1 ≤ m ∧ m ≤ 3 ∧ 0 ≤ t ∧ t ≤ 99 ∧ ret n 200 (Mach m s t) Q
def c_law_bent : Ctr := fun ds n Q => ∃ a d, ∃ s m : Nat, ∃ t : Int, ds = [.bag a, d] ∧ 1 ≤ s ∧ s ≤ 24 ∧ 1 ≤ m ∧ m ≤ 3 ∧ t ≤ 99 ∧ Mach m s t d ∧ ret n 4 (Mach m s 99) Q
def c_law_by_length : Ctr := fun ds n Q => ∃ d e, ∃ s u m : Nat, ∃ t : Int, ds = [d, e] ∧ 1 ≤ s ∧ 1 ≤ u ∧ 2 * s * u ≤ 24 ∧ 1 ≤ m ∧ m ≤ 3 ∧ Mach m s t d ∧ Mach m u t e ∧ ret n 0 (Mach m (2 * s * u) t) Q
def c_law_both : Ctr := fun ds n Q => ∃ d e, ∃ s u m : Nat, ∃ t v : Int, ds = [d, e] ∧ 1 ≤ s ∧ 1 ≤ u ∧ s * u ≤ 24 ∧ 1 ≤ m ∧ m ≤ 3 ∧ 0 ≤ t ∧ t ≤ 99 ∧ 0 ≤ v ∧ v ≤ 99 ∧ Mach m s t d ∧ Mach m u v e ∧ ret n 0 (Mach m (s * u) (10 * t + v)) Q
def c_law_machine : Ctr := fun ds n Q => ∃ a, ds = [.bag a] ∧ ret n 1000 (fun d => ∃ m s, 1 ≤ m ∧ m ≤ 3 ∧ 1 ≤ s ∧ s ≤ 24 ∧ Mach m s 99 d) Q
def c_law_row : Ctr := fun ds n Q => ∃ a, ∃ m l : Nat, ds = [.bag a, .int m, .int l] ∧ 1 ≤ m ∧ m ≤ 3 ∧ l ≤ 1000 ∧ ret n 1000 (fun d => ∃ r : List Int, d = .tup (r.map .int) ∧ r.length = l ∧ ∀ x ∈ r, 0 ≤ x ∧ x < (m : Int)) Q
/-- d' tells what d tells: its states are d's (w), however often each -/
def Like (m u : Nat) (d d' : D) : Prop := ∃ (mv : List (List Int)) (tl : List Int) (mv' : List (List Int)) (tl' : List Int) (w : List Int), d = .tup [.tup (mvD mv), .tup (tlD tl)] ∧ d' = .tup [.tup (mvD mv'), .tup (tlD tl')] ∧ w.length = u ∧ w[0]? = some 0 ∧
  ∀ p, p < u → ∃ j : Nat, w[p]? = some (j : Int) ∧ j < mv.length ∧ tl'[p]? = tl[j]? ∧ ∃ r r', mv[j]? = some r ∧ mv'[p]? = some r' ∧ ∀ c, c < m → ∃ (g : Int) (q : Nat), r[c]? = some g ∧ r'[c]? = some (q : Int) ∧ w[q]? = some g
def c_law_split : Ctr := fun ds n Q => ∃ a d, ∃ s m u : Nat, ∃ t : Int, ds = [.bag a, d, .int u] ∧ 1 ≤ s ∧ s ≤ u ∧ u ≤ 24 ∧ 1 ≤ m ∧ m ≤ 3 ∧ Mach m s t d ∧ ret n 200 (fun d' => Mach m u t d' ∧ Like m u d d') Q
def c_law_wide : Ctr := fun ds n Q => ∃ a d, ∃ s m : Nat, ∃ t : Int, ds = [.bag a, d] ∧ 1 ≤ s ∧ s ≤ 24 ∧ 1 ≤ m ∧ m ≤ 3 ∧ Mach m s t d ∧ ret n 300 (fun d' => ∃ u, s ≤ u ∧ u ≤ 24 ∧ Mach m u t d' ∧ Like m u d d') Q
/-! ### what this law's defs promise -/
/-- plain data of bounded size -/
inductive Pl : D → Prop
  | non : Pl .non
  | bl (b : Bool) : Pl (.bl b)
  | int (i : Int) : Pl (.int i)
  | str (x : Str) : Pl (.str x)
  | dct : Pl .dct
  | tup {l : List D} : l.length ≤ 1000 → (∀ d ∈ l, Pl d) → Pl (.tup l)
  | lst {l : List D} : l.length ≤ 1000 → (∀ d ∈ l, Pl d) → Pl (.lst l)
def whole (v : D) (lo hi : Int) : Bool := match v with
  | .int i => decide (lo ≤ i) && decide (i ≤ hi)
  | _ => false
/-- the first item that is not as p asks -/
def firstBad (p : D → Bool) : Nat → List D → Option Nat
  | _, [] => none
  | i, d :: ds => if p d then firstBad p (i + 1) ds else some i
def goodItem (s m : Nat) : D → Bool
  | .tup l => decide (l.length = m) && l.all fun d => whole d 0 (s - 1)
  | _ => false
def badItem (mv : List D) : Option Nat := match mv with
  | .tup f :: _ => if 1 ≤ f.length ∧ f.length ≤ 3 then firstBad (goodItem mv.length f.length) 0 mv else some 0
  | _ => some 0
def telErr (v : D) : D := match v with
  | .tup [.tup mv, .tup tl] => if 1 ≤ mv.length ∧ mv.length ≤ 24 then
      match badItem mv with
      | some i => .tup [.str "moves", .int (i : Nat)]
      | none => if tl.length = mv.length then
          match firstBad (fun d => whole d 0 99) 0 tl with
          | some i => .tup [.str "tell", .int (i : Nat)]
          | none => .non
        else .str "tells"
    else .str "states"
  | _ => .str "form"
def rowErr (m : Int) (v : D) : D := match v with
  | .tup l => if 40 < l.length then .str "long" else
      match firstBad (fun d => whole d 0 (m - 1)) 0 l with
      | some i => .tup [.str "letter", .int (i : Nat)]
      | none => .non
  | _ => .str "form"
def oN : Option Nat → D
  | none => .non
  | some i => .int (i : Nat)
def isInt (v : D) : Bool := match v with | .int _ => true | _ => false
def c_is_integer : Ctr := fun ds n Q => ∃ v, ds = [v] ∧ Pl v ∧ Q (.bl (isInt v)) n
def c_is_whole : Ctr := fun ds n Q => ∃ v lo hi, ds = [v, .int lo, .int hi] ∧ Pl v ∧ Q (.bl (whole v lo hi)) n
def c_law_is_number : Ctr := c_is_whole
def isPair : D → Bool
  | .tup [.tup _, .tup _] => true
  | _ => false
def c_is_pair_of_tuples : Ctr := fun ds n Q => ∃ v, ds = [v] ∧ Pl v ∧ Q (.bl (isPair v)) n
def c_first_wrong_item : Ctr := fun ds n Q => ∃ mv, ds = [.tup mv] ∧ Pl (.tup mv) ∧ 1 ≤ mv.length ∧ Q (oN (badItem mv)) n
def c_teller_error : Ctr := fun ds n Q => ∃ v, ds = [v] ∧ Pl v ∧ Q (telErr v) n
def c_law_fault : Ctr := c_teller_error
def c_kinds : Ctr := fun ds n Q => ∃ m s t d, ds = [d] ∧ 1 ≤ s ∧ Mach m s t d ∧ Q (.int m) n
def c_row_error : Ctr := fun ds n Q => ∃ m v, ds = [.int m, v] ∧ Pl v ∧ Q (rowErr m v) n
def c_law_row_fault : Ctr := c_row_error
def c_law_odd : Ctr := fun ds n Q => ∃ a b, ds = [.bag a, .int b] ∧ ret n 1 Pl Q
def c_law_with : Ctr := fun ds n Q => ∃ l, ∃ p : Nat, ∃ v, ds = [.tup l, .int p, v] ∧ l.length ≤ 1000 ∧ p ≤ 1000 ∧ Q (.tup (l.take p ++ [v] ++ l.drop (p + 1))) n
/-- a pair of tuples of some size -/
def Pair (k : Nat) (d : D) : Prop := ∃ mv tl, d = .tup [.tup mv, .tup tl] ∧ mv.length ≤ k ∧ tl.length ≤ k ∧ (∀ x ∈ mv, Pl x ∧ ∀ l, x = .tup l → l.length ≤ k) ∧ ∀ x ∈ tl, Pl x
def c_law_spoilt : Ctr := fun ds n Q => ∃ a d, ∃ k : Nat, ds = [.bag a, d] ∧ 4 ≤ k ∧ k ≤ 500 ∧ 30 ≤ k ∧ Pair k d ∧ ret n 20 (Pair (k + 2)) Q
def c_law_no_pair : Ctr := fun ds n Q => ∃ a d, ∃ k : Nat, ds = [.bag a, d] ∧ k ≤ 500 ∧ Pair k d ∧ ret n 1 Pl Q
def c_law_rows : Ctr := fun ds n Q => ∃ a, ∃ m : Nat, ds = [.bag a, .int m] ∧ 1 ≤ m ∧ m ≤ 3 ∧ ret n 2000 (fun d => ∃ l, d = .lst l ∧ l.length = 5 ∧ ∀ x ∈ l, Pl x) Q
def c_law : Ctr := fun ds n Q => ∃ ns, ds = [.scr ns] ∧ ns.length ≤ 63 ∧ n = 0 ∧ ∀ n', Q (.bl true) n'
def wb_is_integer : TDS := (wRet (wAndV (wCB gIsi (wCons (wV 0) (wCons (wC (.ty "int")) wNil))) (wNotV (wCB gIsi (wCons (wV 0) (wCons (wC (.ty "bool")) wNil))))))
def wb_is_whole : TDS := (wRet (wAndV (wCall 1 c_is_integer (wCons (wV 0) wNil)) (wChain gLe gLe (wV 1) (wV 0) (wV 2))))
def wb_teller_error_1 : TDS := (wIfS (wTNot (wTst (wCall 3 c_is_whole (wCons (wV 5) (wCons (wC (.int 0)) (wCons (wC (.int 99)) wNil)))))) (wRet (wTup (wCons (wC (.str ("tell" : Str))) (wCons (wV 4) wNil)))) wSkip)
def wb_teller_error_2 : TDS := (wSeq (wFor (wiEn (wCons (wV 3) wNil)) (wgTup 2 (wgCons (wgN 4) (wgCons (wgN 5) wgNil))) wb_teller_error_1) (wRet (wC .non)))
def wb_teller_error_3 : TDS := (wSeq (wIfS (wTst (wOp (gEq true) (wLenN 3) (wLenN 2))) (wRet (wC (.str ("tells" : Str)))) wSkip) wb_teller_error_2)
def wb_teller_error_4 : TDS := (wSeq (wIfS (wTst (wOp (gIsN true) (wV 1) (wC .non))) (wRet (wTup (wCons (wC (.str ("moves" : Str))) (wCons (wV 1) wNil)))) wSkip) wb_teller_error_3)
def wb_teller_error_5 : TDS := (wSeq (wSet 1 (wCall 1 c_first_wrong_item (wCons (wV 2) wNil))) wb_teller_error_4)
def wb_teller_error_6 : TDS := (wSeq (wIfS (wTNot (wTst (wChain gLe gLe (wC (.int 1)) (wLenN 2) (wC (.int 24))))) (wRet (wC (.str ("states" : Str)))) wSkip) wb_teller_error_5)
def wb_teller_error_7 : TDS := (wSeq (wAsg (wV 0) (wgTup 2 (wgCons (wgN 2) (wgCons (wgN 3) wgNil)))) wb_teller_error_6)
def wb_teller_error : TDS := (wSeq (wIfS (wTNot (wTst (wCall 1 c_is_pair_of_tuples (wCons (wV 0) wNil)))) (wRet (wC (.str ("form" : Str)))) wSkip) wb_teller_error_7)
def wb_is_pair_of_tuples_1 : TDS := (wRet (wAndV (wCB gIsi (wCons (wIxN 0 (wC (.int 0))) (wCons (wC (.ty "tuple")) wNil))) (wCB gIsi (wCons (wIxN 0 (wC (.int 1))) (wCons (wC (.ty "tuple")) wNil)))))
def wb_is_pair_of_tuples : TDS := (wSeq (wIfS (wTOr (wTNot (wTst (wCB gIsi (wCons (wV 0) (wCons (wC (.ty "tuple")) wNil))))) (wTst (wOp (gEq true) (wLenN 0) (wC (.int 2))))) (wRet (wC (.bl false))) wSkip) wb_is_pair_of_tuples_1)
def wb_first_wrong_item_1 : TDS := (wIfS (wTNot (wTst (wCB gAll (wCons (wLc (wiSeq (wV 3)) (wgN 4) wYes (wCall 3 c_is_whole (wCons (wV 4) (wCons (wC (.int 0)) (wCons (wOp gMinus (wLenN 0) (wC (.int 1))) wNil)))) [4]) wNil)))) (wRet (wV 2)) wSkip)
def wb_first_wrong_item_2 : TDS := (wSeq (wIfS (wTOr (wTNot (wTst (wCB gIsi (wCons (wV 3) (wCons (wC (.ty "tuple")) wNil))))) (wTst (wOp (gEq true) (wLenN 3) (wLenN 1)))) (wRet (wV 2)) wSkip) wb_first_wrong_item_1)
def wb_first_wrong_item_3 : TDS := (wSeq (wFor (wiEn (wCons (wV 0) wNil)) (wgTup 2 (wgCons (wgN 2) (wgCons (wgN 3) wgNil))) wb_first_wrong_item_2) (wRet (wC .non)))
def wb_first_wrong_item_4 : TDS := (wSeq (wIfS (wTOr (wTNot (wTst (wCB gIsi (wCons (wV 1) (wCons (wC (.ty "tuple")) wNil))))) (wTNot (wTst (wChain gLe gLe (wC (.int 1)) (wLenN 1) (wC (.int 3)))))) (wRet (wC (.int 0))) wSkip) wb_first_wrong_item_3)
def wb_first_wrong_item : TDS := (wSeq (wSet 1 (wIxN 0 (wC (.int 0)))) wb_first_wrong_item_4)
def wb_kinds : TDS := (wRet (wCB gLen (wCons (wIx (wIxN 0 (wC (.int 0))) (wC (.int 0))) wNil)))
def wb_row_error_1 : TDS := (wIfS (wTNot (wTst (wCall 3 c_is_whole (wCons (wV 3) (wCons (wC (.int 0)) (wCons (wOp gMinus (wV 0) (wC (.int 1))) wNil)))))) (wRet (wTup (wCons (wC (.str ("letter" : Str))) (wCons (wV 2) wNil)))) wSkip)
def wb_row_error_2 : TDS := (wSeq (wFor (wiEn (wCons (wV 1) wNil)) (wgTup 2 (wgCons (wgN 2) (wgCons (wgN 3) wgNil))) wb_row_error_1) (wRet (wC .non)))
def wb_row_error_3 : TDS := (wSeq (wIfS (wTst (wOp gGt (wLenN 1) (wC (.int 40)))) (wRet (wC (.str ("long" : Str)))) wSkip) wb_row_error_2)
def wb_row_error : TDS := (wSeq (wIfS (wTNot (wTst (wCB gIsi (wCons (wV 1) (wCons (wC (.ty "tuple")) wNil))))) (wRet (wC (.str ("form" : Str)))) wSkip) wb_row_error_3)
def wb_law_pick : TDS := (wRet (wIxN 1 (wCall 2 c_law_draw (wCons (wV 0) (wCons (wLenN 1) wNil)))))
def wb_law_known_1 : TDS := (wRet (wTup (wCons (wOp gAdd (wCB gTuple (wCons (wV 3) wNil)) (wTup (wCons (wOp gMul (wTup (wCons (wV 1) wNil)) (wV 1)) wNil))) (wCons (wOp gAdd (wOp gMul (wTup (wCons (wC (.int 1)) wNil)) (wV 1)) (wTup (wCons (wC (.int 0)) wNil))) wNil))))
def wb_law_known_2 : TDS := (wSeq (wSet 3 (wLc (wiR1 (wCons (wV 1) wNil)) (wgN 4) wYes (wCB gTuple (wCons (wLc (wiR1 (wCons (wV 1) wNil)) (wgN 5) wYes (wIf (wTst (wOp gLt (wV 5) (wV 4))) (wV 1) (wV 5)) [5]) wNil)) [4])) wb_law_known_1)
def wb_law_known_3 : TDS := (wSeq (wIfS (wTst (wOp (gEq false) (wV 0) (wC (.str ("next" : Str))))) (wRet (wTup (wCons (wTup (wCons (wOp gAdd (wTup (wCons (wC (.int 1)) wNil)) (wV 2)) (wCons (wSl (wTup (wCons (wC (.int 1)) (wCons (wC (.int 2)) (wCons (wC (.int 0)) wNil)))) woN (woS (wV 1))) (wCons (wOp gMul (wTup (wCons (wC (.int 2)) wNil)) (wV 1)) wNil)))) (wCons (wTup (wCons (wC (.int 0)) (wCons (wC (.int 0)) (wCons (wC (.int 1)) wNil)))) wNil)))) wSkip) wb_law_known_2)
def wb_law_known_4 : TDS := (wSeq (wIfS (wTst (wOp (gEq false) (wV 0) (wC (.str ("parity" : Str))))) (wRet (wTup (wCons (wTup (wCons (wOp gAdd (wTup (wCons (wC (.int 1)) wNil)) (wV 2)) (wCons (wOp gAdd (wTup (wCons (wC (.int 0)) wNil)) (wOp gMul (wTup (wCons (wC (.int 1)) wNil)) (wOp gMinus (wV 1) (wC (.int 1))))) wNil))) (wCons (wTup (wCons (wC (.int 0)) (wCons (wC (.int 1)) wNil))) wNil)))) wSkip) wb_law_known_3)
def wb_law_known_5 : TDS := (wSeq (wIfS (wTst (wOp (gEq false) (wV 0) (wC (.str ("length" : Str))))) (wRet (wTup (wCons (wTup (wCons (wOp gMul (wTup (wCons (wC (.int 1)) wNil)) (wV 1)) (wCons (wOp gMul (wTup (wCons (wC (.int 2)) wNil)) (wV 1)) (wCons (wOp gMul (wTup (wCons (wC (.int 0)) wNil)) (wV 1)) wNil)))) (wCons (wTup (wCons (wC (.int 0)) (wCons (wC (.int 1)) (wCons (wC (.int 2)) wNil)))) wNil)))) wSkip) wb_law_known_4)
def wb_law_known_6 : TDS := (wSeq (wIfS (wTst (wOp (gEq false) (wV 0) (wC (.str ("holds" : Str))))) (wRet (wTup (wCons (wTup (wCons (wOp gAdd (wTup (wCons (wC (.int 1)) wNil)) (wV 2)) (wCons (wOp gMul (wTup (wCons (wC (.int 1)) wNil)) (wV 1)) wNil))) (wCons (wTup (wCons (wC (.int 0)) (wCons (wC (.int 1)) wNil))) wNil)))) wSkip) wb_law_known_5)
def wb_law_known_7 : TDS := (wSeq (wIfS (wTst (wOp (gEq false) (wV 0) (wC (.str ("ends" : Str))))) (wRet (wTup (wCons (wTup (wCons (wOp gAdd (wTup (wCons (wC (.int 1)) wNil)) (wV 2)) (wCons (wOp gAdd (wTup (wCons (wC (.int 1)) wNil)) (wV 2)) wNil))) (wCons (wTup (wCons (wC (.int 0)) (wCons (wC (.int 1)) wNil))) wNil)))) wSkip) wb_law_known_6)
def wb_law_known_8 : TDS := (wSeq (wIfS (wTst (wOp (gEq false) (wV 0) (wC (.str ("count" : Str))))) (wRet (wTup (wCons (wCB gTuple (wCons (wLc (wiR1 (wCons (wC (.int 4)) wNil)) (wgN 4) wYes (wOp gAdd (wTup (wCons (wCB gMin (wCons (wC (.int 3)) (wCons (wOp gAdd (wV 4) (wC (.int 1))) wNil))) wNil)) (wOp gMul (wTup (wCons (wV 4) wNil)) (wOp gMinus (wV 1) (wC (.int 1))))) [4]) wNil)) (wCons (wTup (wCons (wC (.int 0)) (wCons (wC (.int 1)) (wCons (wC (.int 2)) (wCons (wC (.int 3)) wNil))))) wNil)))) wSkip) wb_law_known_7)
def wb_law_known_9 : TDS := (wSeq (wIfS (wTst (wOp (gEq false) (wV 0) (wC (.str ("begins" : Str))))) (wRet (wTup (wCons (wTup (wCons (wOp gAdd (wTup (wCons (wC (.int 1)) wNil)) (wOp gMul (wTup (wCons (wC (.int 2)) wNil)) (wOp gMinus (wV 1) (wC (.int 1))))) (wCons (wOp gMul (wTup (wCons (wC (.int 1)) wNil)) (wV 1)) (wCons (wOp gMul (wTup (wCons (wC (.int 2)) wNil)) (wV 1)) wNil)))) (wCons (wTup (wCons (wC (.int 0)) (wCons (wC (.int 1)) (wCons (wC (.int 0)) wNil)))) wNil)))) wSkip) wb_law_known_8)
def wb_law_known : TDS := (wSeq (wSet 2 (wOp gMul (wTup (wCons (wC (.int 0)) wNil)) (wOp gMinus (wV 1) (wC (.int 1))))) wb_law_known_9)
def wb_law_names : TDS := (wRet (wLst (wCons (wC (.str ("begins" : Str))) (wCons (wC (.str ("count" : Str))) (wCons (wC (.str ("ends" : Str))) (wCons (wC (.str ("holds" : Str))) (wCons (wC (.str ("length" : Str))) (wCons (wC (.str ("next" : Str))) (wCons (wC (.str ("parity" : Str))) (wCons (wC (.str ("sorted" : Str))) wNil))))))))))
def wb_law_any_1 : TDS := (wRet (wTup (wCons (wV 4) (wCons (wCB gTuple (wCons (wLc (wiR1 (wCons (wV 1) wNil)) (wgN 5) wYes (wCall 2 c_law_draw (wCons (wV 0) (wCons (wOp gAdd (wV 3) (wC (.int 1))) wNil))) [5]) wNil)) wNil))))
def wb_law_any : TDS := (wSeq (wSet 4 (wCB gTuple (wCons (wLc (wiR1 (wCons (wV 1) wNil)) (wgN 5) wYes (wCB gTuple (wCons (wLc (wiR1 (wCons (wV 2) wNil)) (wgN 6) wYes (wCall 2 c_law_draw (wCons (wV 0) (wCons (wV 1) wNil))) [6]) wNil)) [5]) wNil))) wb_law_any_1)
def wb_law_growing_1 : TDS := (wDrop (wApp 4 (wCB gTuple (wCons (wV 6) wNil))))
def wb_law_growing_2 : TDS := (wSeq (wIfS (wTst (wOp (gEq false) (wCall 2 c_law_draw (wCons (wV 0) (wCons (wC (.int 6)) wNil))) (wC (.int 0)))) (wAsg (wCall 2 c_law_draw (wCons (wV 0) (wCons (wV 1) wNil))) (wgIx 6 (wCall 2 c_law_draw (wCons (wV 0) (wCons (wV 2) wNil))))) wSkip) wb_law_growing_1)
def wb_law_growing_3 : TDS := (wSeq (wSet 6 (wLc (wiR1 (wCons (wV 2) wNil)) (wgN 7) wYes (wCB gMin (wCons (wOp gMinus (wV 1) (wC (.int 1))) (wCons (wOp gAdd (wV 5) (wCall 2 c_law_draw (wCons (wV 0) (wCons (wC (.int 2)) wNil)))) wNil))) [7])) wb_law_growing_2)
def wb_law_growing_4 : TDS := (wRet (wTup (wCons (wCB gTuple (wCons (wV 4) wNil)) (wCons (wCB gTuple (wCons (wLc (wiR1 (wCons (wV 1) wNil)) (wgN 5) wYes (wCall 2 c_law_draw (wCons (wV 0) (wCons (wOp gAdd (wV 3) (wC (.int 1))) wNil))) [5]) wNil)) wNil))))
def wb_law_growing_5 : TDS := (wSeq (wFor (wiR1 (wCons (wV 1) wNil)) (wgN 5) wb_law_growing_3) wb_law_growing_4)
def wb_law_growing : TDS := (wSeq (wSet 4 (wLst wNil)) wb_law_growing_5)
def wb_law_bent_1 : TDS := (wRet (wTup (wCons (wOp gAdd (wOp gAdd (wSl (wV 5) woN (woS (wV 2))) (wTup (wCons (wV 4) wNil))) (wSl (wV 5) (woS (wOp gAdd (wV 2) (wC (.int 1)))) woN)) (wCons (wV 6) wNil))))
def wb_law_bent_2 : TDS := (wSeq (wSet 4 (wOp gAdd (wOp gAdd (wSl (wIxN 5 (wV 2)) woN (woS (wV 3))) (wTup (wCons (wCall 2 c_law_draw (wCons (wV 0) (wCons (wLenN 5) wNil))) wNil))) (wSl (wIxN 5 (wV 2)) (woS (wOp gAdd (wV 3) (wC (.int 1)))) woN))) wb_law_bent_1)
def wb_law_bent_3 : TDS := (wSeq (wSet 3 (wCall 2 c_law_draw (wCons (wV 0) (wCons (wCB gLen (wCons (wIxN 5 (wC (.int 0))) wNil)) wNil)))) wb_law_bent_2)
def wb_law_bent_4 : TDS := (wSeq (wIfS (wTst (wOp (gEq false) (wCall 2 c_law_draw (wCons (wV 0) (wCons (wC (.int 2)) wNil))) (wC (.int 0)))) (wRet (wTup (wCons (wV 5) (wCons (wOp gAdd (wOp gAdd (wSl (wV 6) woN (woS (wV 2))) (wTup (wCons (wCall 2 c_law_pick (wCons (wV 0) (wCons (wLst (wCons (wC (.int 0)) (wCons (wC (.int 1)) (wCons (wC (.int 2)) (wCons (wC (.int 99)) wNil))))) wNil))) wNil))) (wSl (wV 6) (woS (wOp gAdd (wV 2) (wC (.int 1)))) woN)) wNil)))) wSkip) wb_law_bent_3)
def wb_law_bent_5 : TDS := (wSeq (wSet 2 (wCall 2 c_law_draw (wCons (wV 0) (wCons (wLenN 5) wNil)))) wb_law_bent_4)
def wb_law_bent : TDS := (wSeq (wAsg (wV 1) (wgTup 2 (wgCons (wgN 5) (wgCons (wgN 6) wgNil)))) wb_law_bent_5)
def wb_law_by_length_1 : TDS := (wDrop (wApp 6 (wOp gMinus (wOp gAdd (wOp gMul (wC (.int 2)) (wOp gAdd (wOp gMul (wV 10) (wV 5)) (wV 11))) (wC (.int 1))) (wV 7))))
def wb_law_by_length_2 : TDS := (wDrop (wApp 4 (wIf (wTst (wOp (gEq false) (wV 7) (wC (.int 1)))) (wIx (wIxN 1 (wC (.int 1))) (wV 9)) (wIx (wIxN 0 (wC (.int 1))) (wV 8)))))
def wb_law_by_length_3 : TDS := (wSeq (wDrop (wApp 3 (wCB gTuple (wCons (wV 6) wNil)))) wb_law_by_length_2)
def wb_law_by_length_4 : TDS := (wSeq (wFor (wiZip (wCons (wIx (wIxN 0 (wC (.int 0))) (wV 8)) (wCons (wIx (wIxN 1 (wC (.int 0))) (wV 9)) wNil))) (wgTup 2 (wgCons (wgN 10) (wgCons (wgN 11) wgNil))) wb_law_by_length_1) wb_law_by_length_3)
def wb_law_by_length_5 : TDS := (wSeq (wSet 6 (wLst wNil)) wb_law_by_length_4)
def wb_law_by_length_6 : TDS := (wSeq (wPar3 7 8 9 (wCons (wOp gMod (wV 2) (wC (.int 2))) (wCons (wOp gDiv (wOp gDiv (wV 2) (wC (.int 2))) (wV 5)) (wCons (wOp gMod (wOp gDiv (wV 2) (wC (.int 2))) (wV 5)) wNil)))) wb_law_by_length_5)
def wb_law_by_length_7 : TDS := (wRet (wTup (wCons (wCB gTuple (wCons (wV 3) wNil)) (wCons (wCB gTuple (wCons (wV 4) wNil)) wNil))))
def wb_law_by_length_8 : TDS := (wSeq (wFor (wiR1 (wCons (wOp gMul (wOp gMul (wC (.int 2)) (wCB gLen (wCons (wIxN 0 (wC (.int 0))) wNil))) (wV 5)) wNil)) (wgN 2) wb_law_by_length_6) wb_law_by_length_7)
def wb_law_by_length : TDS := (wSeq (wPar3 3 4 5 (wCons (wLst wNil) (wCons (wLst wNil) (wCons (wCB gLen (wCons (wIxN 1 (wC (.int 0))) wNil)) wNil)))) wb_law_by_length_8)
def wb_law_both_1 : TDS := (wDrop (wApp 6 (wOp gAdd (wOp gMul (wV 9) (wV 3)) (wV 10))))
def wb_law_both_2 : TDS := (wDrop (wApp 5 (wOp gAdd (wOp gMul (wC (.int 10)) (wIx (wIxN 0 (wC (.int 1))) (wV 7))) (wIx (wIxN 1 (wC (.int 1))) (wV 8)))))
def wb_law_both_3 : TDS := (wSeq (wDrop (wApp 4 (wCB gTuple (wCons (wV 6) wNil)))) wb_law_both_2)
def wb_law_both_4 : TDS := (wSeq (wFor (wiZip (wCons (wIx (wIxN 0 (wC (.int 0))) (wV 7)) (wCons (wIx (wIxN 1 (wC (.int 0))) (wV 8)) wNil))) (wgTup 2 (wgCons (wgN 9) (wgCons (wgN 10) wgNil))) wb_law_both_1) wb_law_both_3)
def wb_law_both_5 : TDS := (wSeq (wSet 6 (wLst wNil)) wb_law_both_4)
def wb_law_both_6 : TDS := (wSeq (wPar2 7 8 (wCons (wOp gDiv (wV 2) (wV 3)) (wCons (wOp gMod (wCB gInt (wCons (wV 2) wNil)) (wV 3)) wNil))) wb_law_both_5)
def wb_law_both_7 : TDS := (wRet (wTup (wCons (wCB gTuple (wCons (wV 4) wNil)) (wCons (wCB gTuple (wCons (wV 5) wNil)) wNil))))
def wb_law_both_8 : TDS := (wSeq (wFor (wiR1 (wCons (wOp gMul (wCB gLen (wCons (wIxN 0 (wC (.int 0))) wNil)) (wV 3)) wNil)) (wgN 2) wb_law_both_6) wb_law_both_7)
def wb_law_both : TDS := (wSeq (wPar3 3 4 5 (wCons (wCB gLen (wCons (wIxN 1 (wC (.int 0))) wNil)) (wCons (wLst wNil) (wCons (wLst wNil) wNil)))) wb_law_both_8)
def wb_law_machine_1 : TDS := (wRet (wCall 2 c_law_by_length (wCons (wCall 4 c_law_any (wCons (wV 0) (wCons (wOp gAdd (wC (.int 1)) (wCall 2 c_law_draw (wCons (wV 0) (wCons (wC (.int 3)) wNil)))) (wCons (wV 4) (wCons (wC (.int 1)) wNil))))) (wCons (wCall 2 c_law_bent (wCons (wV 0) (wCons (wV 3) wNil))) wNil))))
def wb_law_machine_2 : TDS := (wSeq (wIfS (wTst (wOp (gEq false) (wV 1) (wC (.int 8)))) (wRet (wCall 2 c_law_by_length (wCons (wV 2) (wCons (wV 3) wNil)))) wSkip) wb_law_machine_1)
def wb_law_machine_3 : TDS := (wSeq (wIfS (wTOr (wTst (wOp (gEq false) (wV 1) (wC (.int 7)))) (wTAnd (wTst (wOp (gEq false) (wV 1) (wC (.int 8)))) (wTst (wOp gGt (wOp gMul (wCB gLen (wCons (wIxN 2 (wC (.int 0))) wNil)) (wCB gLen (wCons (wIxN 3 (wC (.int 0))) wNil))) (wC (.int 12)))))) (wRet (wCall 2 c_law_both (wCons (wV 2) (wCons (wV 3) wNil)))) wSkip) wb_law_machine_2)
def wb_law_machine_4 : TDS := (wSeq (wSet 3 (wCall 2 c_law_known (wCons (wCall 2 c_law_pick (wCons (wV 0) (wCons (wLst (wCons (wC (.str ("holds" : Str))) (wCons (wC (.str ("next" : Str))) (wCons (wC (.str ("begins" : Str))) (wCons (wC (.str ("sorted" : Str))) wNil))))) wNil))) (wCons (wV 4) wNil)))) wb_law_machine_3)
def wb_law_machine_5 : TDS := (wSeq (wIfS (wTst (wOp (gEq false) (wV 1) (wC (.int 6)))) (wRet (wCall 2 c_law_bent (wCons (wV 0) (wCons (wV 2) wNil)))) wSkip) wb_law_machine_4)
def wb_law_machine_6 : TDS := (wSeq (wIfS (wTst (wOp (gEq false) (wV 1) (wC (.int 5)))) (wRet (wV 2)) wSkip) wb_law_machine_5)
def wb_law_machine_7 : TDS := (wSeq (wSet 2 (wCall 2 c_law_known (wCons (wCall 2 c_law_pick (wCons (wV 0) (wCons (wCall0 c_law_names) wNil))) (wCons (wV 4) wNil)))) wb_law_machine_6)
def wb_law_machine_8 : TDS := (wSeq (wIfS (wTst (wOp gLt (wV 1) (wC (.int 5)))) (wRet (wCall 4 c_law_growing (wCons (wV 0) (wCons (wV 5) (wCons (wV 4) (wCons (wV 6) wNil)))))) wSkip) wb_law_machine_7)
def wb_law_machine_9 : TDS := (wSeq (wIfS (wTst (wOp gLt (wV 1) (wC (.int 2)))) (wRet (wCall 4 c_law_any (wCons (wV 0) (wCons (wIf (wTOr (wTst (wOp (gEq false) (wV 4) (wC (.int 3)))) (wTst (wOp (gEq false) (wCall 2 c_law_draw (wCons (wV 0) (wCons (wC (.int 3)) wNil))) (wC (.int 0))))) (wCB gMin (wCons (wC (.int 3)) (wCons (wV 5) wNil))) (wV 5)) (wCons (wV 4) (wCons (wV 6) wNil)))))) wSkip) wb_law_machine_8)
def wb_law_machine_10 : TDS := (wSeq (wSet 1 (wCall 2 c_law_draw (wCons (wV 0) (wCons (wC (.int 10)) wNil)))) wb_law_machine_9)
def wb_law_machine : TDS := (wSeq (wPar3 4 5 6 (wCons (wCall 2 c_law_pick (wCons (wV 0) (wCons (wLst (wCons (wC (.int 2)) (wCons (wC (.int 2)) (wCons (wC (.int 2)) (wCons (wC (.int 2)) (wCons (wC (.int 1)) (wCons (wC (.int 3)) wNil))))))) wNil))) (wCons (wOp gAdd (wC (.int 2)) (wCall 2 c_law_draw (wCons (wV 0) (wCons (wC (.int 4)) wNil)))) (wCons (wCall 2 c_law_pick (wCons (wV 0) (wCons (wLst (wCons (wC (.int 1)) (wCons (wC (.int 2)) (wCons (wC (.int 99)) wNil)))) wNil))) wNil)))) wb_law_machine_10)
def wb_law_row : TDS := (wRet (wCB gTuple (wCons (wLc (wiR1 (wCons (wV 2) wNil)) (wgN 3) wYes (wCall 2 c_law_draw (wCons (wV 0) (wCons (wV 1) wNil))) [3]) wNil)))
def wb_law_split_1 : TDS := (wDrop (wApp 5 (wCall 2 c_law_draw (wCons (wV 0) (wCons (wLenN 8) wNil)))))
def wb_law_split_2 : TDS := (wDrop (wApp 5 (wPop 4 (wCall 2 c_law_draw (wCons (wV 0) (wCons (wLenN 4) wNil))))))
def wb_law_split_3 : TDS := (wDrop (wApp 10 (wLc (wiR1 (wCons (wLenN 5) wNil)) (wgN 11) (wTst (wOp (gEq false) (wIxN 5 (wV 11)) (wV 6))) (wV 11) [11])))
def wb_law_split_4 : TDS := (wRet (wTup (wCons (wCB gTuple (wCons (wV 7) wNil)) (wCons (wCB gTuple (wCons (wLc (wiSeq (wV 5)) (wgN 6) wYes (wIxN 9 (wV 6)) [6]) wNil)) wNil))))
def wb_law_split_5 : TDS := (wSeq (wSet 7 (wLc (wiSeq (wV 5)) (wgN 6) wYes (wCB gTuple (wCons (wLc (wiSeq (wIxN 8 (wV 6))) (wgN 12) wYes (wCall 2 c_law_pick (wCons (wV 0) (wCons (wIxN 10 (wV 12)) wNil))) [12]) wNil)) [6])) wb_law_split_4)
def wb_law_split_6 : TDS := (wSeq (wFor (wiR1 (wCons (wLenN 8) wNil)) (wgN 6) wb_law_split_3) wb_law_split_5)
def wb_law_split_7 : TDS := (wSeq (wFor (wiR1 (wCons (wLenN 4) wNil)) (wgN 3) wb_law_split_2) wb_law_split_6)
def wb_law_split_8 : TDS := (wSeq (wSet 5 (wLst (wCons (wC (.int 0)) wNil))) wb_law_split_7)
def wb_law_split_9 : TDS := (wSeq (wSet 4 (wSl (wV 5) (woS (wC (.int 1))) woN)) wb_law_split_8)
def wb_law_split_10 : TDS := (wSeq (wFor (wiR1 (wCons (wOp gMinus (wV 2) (wLenN 8)) wNil)) (wgN 3) wb_law_split_1) wb_law_split_9)
def wb_law_split_11 : TDS := (wSeq (wPar2 5 10 (wCons (wListR1 (wLenN 8)) (wCons (wLst wNil) wNil))) wb_law_split_10)
def wb_law_split : TDS := (wSeq (wAsg (wV 1) (wgTup 2 (wgCons (wgN 8) (wgCons (wgN 9) wgNil)))) wb_law_split_11)
def wb_law_wide_1 : TDS := (wRet (wCall 3 c_law_split (wCons (wV 0) (wCons (wV 1) (wCons (wOp gAdd (wCB gLen (wCons (wIxN 1 (wC (.int 0))) wNil)) (wCall 2 c_law_pick (wCons (wV 0) (wCons (wLst (wCons (wC (.int 0)) (wCons (wV 2) (wCons (wCall 2 c_law_draw (wCons (wV 0) (wCons (wOp gAdd (wV 2) (wC (.int 1))) wNil))) wNil)))) wNil)))) wNil)))))
def wb_law_wide : TDS := (wSeq (wSet 2 (wOp gMinus (wC (.int 24)) (wCB gLen (wCons (wIxN 1 (wC (.int 0))) wNil)))) wb_law_wide_1)
def wb_law_is_number : TDS := (wRet (wAndV (wCB gIsi (wCons (wV 0) (wCons (wC (.ty "int")) wNil))) (wAndV (wNotV (wCB gIsi (wCons (wV 0) (wCons (wC (.ty "bool")) wNil)))) (wChain gLe gLe (wV 1) (wV 0) (wV 2)))))
def wb_law_fault_1 : TDS := (wIfS (wTst (wOp (gEq true) (wLc (wiSeq (wV 6)) (wgN 7) (wTNot (wTst (wCall 3 c_law_is_number (wCons (wV 7) (wCons (wC (.int 0)) (wCons (wOp gMinus (wLenN 3) (wC (.int 1))) wNil)))))) (wV 7) [7]) (wLst wNil))) (wRet (wTup (wCons (wC (.str ("moves" : Str))) (wCons (wV 5) wNil)))) wSkip)
def wb_law_fault_2 : TDS := (wSeq (wIfS (wTOr (wTNot (wTst (wCB gIsi (wCons (wV 6) (wCons (wC (.ty "tuple")) wNil))))) (wTOr (wTNot (wTst (wChain gLe gLe (wC (.int 1)) (wV 1) (wC (.int 3))))) (wTst (wOp (gEq true) (wLenN 6) (wV 1))))) (wRet (wTup (wCons (wC (.str ("moves" : Str))) (wCons (wV 5) wNil)))) wSkip) wb_law_fault_1)
def wb_law_fault_3 : TDS := (wRet (wIf (wTst (wOp (gEq false) (wV 2) (wLst wNil))) (wC .non) (wTup (wCons (wC (.str ("tell" : Str))) (wCons (wIxN 2 (wC (.int 0))) wNil)))))
def wb_law_fault_4 : TDS := (wSeq (wSet 2 (wLc (wiR1 (wCons (wLenN 4) wNil)) (wgN 5) (wTNot (wTst (wCall 3 c_law_is_number (wCons (wIxN 4 (wV 5)) (wCons (wC (.int 0)) (wCons (wC (.int 99)) wNil)))))) (wV 5) [5])) wb_law_fault_3)
def wb_law_fault_5 : TDS := (wSeq (wIfS (wTst (wOp (gEq true) (wLenN 4) (wLenN 3))) (wRet (wC (.str ("tells" : Str)))) wSkip) wb_law_fault_4)
def wb_law_fault_6 : TDS := (wSeq (wFor (wiEn (wCons (wV 3) wNil)) (wgTup 2 (wgCons (wgN 5) (wgCons (wgN 6) wgNil))) wb_law_fault_2) wb_law_fault_5)
def wb_law_fault_7 : TDS := (wSeq (wSet 1 (wIf (wTst (wCB gIsi (wCons (wIxN 3 (wC (.int 0))) (wCons (wC (.ty "tuple")) wNil)))) (wCB gLen (wCons (wIxN 3 (wC (.int 0))) wNil)) (wC (.int 0)))) wb_law_fault_6)
def wb_law_fault_8 : TDS := (wSeq (wIfS (wTNot (wTst (wChain gLe gLe (wC (.int 1)) (wLenN 3) (wC (.int 24))))) (wRet (wC (.str ("states" : Str)))) wSkip) wb_law_fault_7)
def wb_law_fault_9 : TDS := (wSeq (wIfS (wTOr (wTNot (wTst (wCB gIsi (wCons (wV 3) (wCons (wC (.ty "tuple")) wNil))))) (wTNot (wTst (wCB gIsi (wCons (wV 4) (wCons (wC (.ty "tuple")) wNil)))))) (wRet (wC (.str ("form" : Str)))) wSkip) wb_law_fault_8)
def wb_law_fault_10 : TDS := (wSeq (wAsg (wV 0) (wgTup 2 (wgCons (wgN 3) (wgCons (wgN 4) wgNil)))) wb_law_fault_9)
def wb_law_fault : TDS := (wSeq (wIfS (wTOr (wTNot (wTst (wCB gIsi (wCons (wV 0) (wCons (wC (.ty "tuple")) wNil))))) (wTst (wOp (gEq true) (wLenN 0) (wC (.int 2))))) (wRet (wC (.str ("form" : Str)))) wSkip) wb_law_fault_10)
def wb_law_row_fault_1 : TDS := (wRet (wIf (wTst (wOp (gEq false) (wV 2) (wLst wNil))) (wC .non) (wTup (wCons (wC (.str ("letter" : Str))) (wCons (wIxN 2 (wC (.int 0))) wNil)))))
def wb_law_row_fault_2 : TDS := (wSeq (wSet 2 (wLc (wiR1 (wCons (wLenN 1) wNil)) (wgN 3) (wTNot (wTst (wCall 3 c_law_is_number (wCons (wIxN 1 (wV 3)) (wCons (wC (.int 0)) (wCons (wOp gMinus (wV 0) (wC (.int 1))) wNil)))))) (wV 3) [3])) wb_law_row_fault_1)
def wb_law_row_fault_3 : TDS := (wSeq (wIfS (wTst (wOp gGt (wLenN 1) (wC (.int 40)))) (wRet (wC (.str ("long" : Str)))) wSkip) wb_law_row_fault_2)
def wb_law_row_fault : TDS := (wSeq (wIfS (wTNot (wTst (wCB gIsi (wCons (wV 1) (wCons (wC (.ty "tuple")) wNil))))) (wRet (wC (.str ("form" : Str)))) wSkip) wb_law_row_fault_3)
def wb_law_odd : TDS := (wRet (wCall 2 c_law_pick (wCons (wV 0) (wCons (wLst (wCons (wV 1) (wCons (wNeg (wC (.int 1))) (wCons (wC (.bl true)) (wCons (wC (.bl false)) (wCons (wC .non) (wCons (wC (.str ("0" : Str))) (wCons (wTup (wCons (wC (.int 0)) wNil)) (wCons (wLst (wCons (wC (.int 0)) wNil)) (wCons (wOp gAdd (wV 1) (wC (.int 1))) (wCons (wOp gPow (wC (.int 10)) (wC (.int 60))) (wCons wDct (wCons (wTup wNil) wNil))))))))))))) wNil))))
def wb_law_with : TDS := (wRet (wOp gAdd (wOp gAdd (wSl (wV 0) woN (woS (wV 1))) (wTup (wCons (wV 2) wNil))) (wSl (wV 0) (woS (wOp gAdd (wV 1) (wC (.int 1)))) woN)))
def wb_law_spoilt_1 : TDS := (wRet (wTup (wCons (wCall 3 c_law_with (wCons (wV 4) (wCons (wV 6) (wCons (wV 8) wNil)))) (wCons (wV 5) wNil))))
def wb_law_spoilt_2 : TDS := (wRet (wTup (wCons (wCB gTuple (wCons (wLc (wiSeq (wV 4)) (wgN 11) wYes (wOp gMul (wTup (wCons (wC (.int 0)) wNil)) (wV 9)) [11]) wNil)) (wCons (wV 5) wNil))))
def wb_law_spoilt_3 : TDS := (wRet (wTup (wCons (wOp gMul (wTup (wCons (wV 2) wNil)) (wV 10)) (wCons (wOp gMul (wTup (wCons (wCall 2 c_law_pick (wCons (wV 0) (wCons (wLst (wCons (wC (.int 0)) (wCons (wC (.int 99)) (wCons (wC (.int 100)) wNil)))) wNil))) wNil)) (wV 10)) wNil))))
def wb_law_spoilt_4 : TDS := (wRet (wTup (wCons (wSl (wV 4) woN (woS (wNeg (wC (.int 1))))) (wCons (wV 5) wNil))))
def wb_law_spoilt_5 : TDS := (wSeq (wIfS (wTst (wOp (gEq false) (wV 7) (wC (.int 9)))) (wRet (wTup (wCons (wTup wNil) (wCons (wCall 2 c_law_pick (wCons (wV 0) (wCons (wLst (wCons (wTup wNil) (wCons (wV 5) wNil))) wNil))) wNil)))) wSkip) wb_law_spoilt_4)
def wb_law_spoilt_6 : TDS := (wSeq (wIfS (wTst (wOp (gEq false) (wV 7) (wC (.int 8)))) (wRet (wTup (wCons (wCall 3 c_law_with (wCons (wV 4) (wCons (wC (.int 0)) (wCons (wCall 2 c_law_pick (wCons (wV 0) (wCons (wLst (wCons (wTup wNil) (wCons (wTup (wCons (wC (.int 0)) wNil)) (wCons (wTup (wCons (wC (.int 0)) (wCons (wC (.int 0)) wNil))) (wCons (wTup (wCons (wC (.int 0)) (wCons (wC (.int 0)) (wCons (wC (.int 0)) wNil)))) (wCons (wLst (wCons (wC (.int 0)) wNil)) (wCons (wC (.int 0)) wNil))))))) wNil))) wNil)))) (wCons (wV 5) wNil)))) wSkip) wb_law_spoilt_5)
def wb_law_spoilt_7 : TDS := (wSeq (wIfS (wTst (wOp (gEq false) (wV 7) (wC (.int 7)))) (wSeq (wSet 10 (wCall 2 c_law_pick (wCons (wV 0) (wCons (wLst (wCons (wC (.int 24)) (wCons (wC (.int 25)) (wCons (wC (.int 30)) wNil)))) wNil)))) wb_law_spoilt_3) wSkip) wb_law_spoilt_6)
def wb_law_spoilt_8 : TDS := (wSeq (wIfS (wTst (wOp (gEq false) (wV 7) (wC (.int 6)))) (wSeq (wSet 9 (wCall 2 c_law_pick (wCons (wV 0) (wCons (wLst (wCons (wC (.int 0)) (wCons (wC (.int 4)) (wCons (wC (.int 1)) (wCons (wC (.int 2)) (wCons (wC (.int 3)) wNil)))))) wNil)))) wb_law_spoilt_2) wSkip) wb_law_spoilt_7)
def wb_law_spoilt_9 : TDS := (wSeq (wIfS (wTst (wOp (gEq false) (wV 7) (wC (.int 5)))) (wRet (wTup (wCons (wV 4) (wCons (wCall 2 c_law_pick (wCons (wV 0) (wCons (wLst (wCons (wSl (wV 5) woN (woS (wNeg (wC (.int 1))))) (wCons (wOp gAdd (wV 5) (wTup (wCons (wC (.int 0)) wNil))) (wCons (wTup wNil) wNil)))) wNil))) wNil)))) wSkip) wb_law_spoilt_8)
def wb_law_spoilt_10 : TDS := (wSeq (wIfS (wTst (wOp (gEq false) (wV 7) (wC (.int 4)))) (wSeq (wSet 8 (wCall 2 c_law_pick (wCons (wV 0) (wCons (wLst (wCons (wCB gList (wCons (wV 2) wNil)) (wCons (wSl (wV 2) woN (woS (wNeg (wC (.int 1))))) (wCons (wOp gAdd (wV 2) (wTup (wCons (wC (.int 0)) wNil))) (wCons (wC .non) (wCons (wTup (wCons (wC (.int 0)) (wCons (wC (.int 0)) (wCons (wC (.int 0)) (wCons (wC (.int 0)) wNil))))) wNil)))))) wNil)))) wb_law_spoilt_1) wSkip) wb_law_spoilt_9)
def wb_law_spoilt_11 : TDS := (wSeq (wIfS (wTst (wOp gLt (wV 7) (wC (.int 4)))) (wRet (wTup (wCons (wV 4) (wCons (wCall 3 c_law_with (wCons (wV 5) (wCons (wCall 2 c_law_draw (wCons (wV 0) (wCons (wCB gMax (wCons (wC (.int 1)) (wCons (wLenN 5) wNil))) wNil))) (wCons (wCall 2 c_law_odd (wCons (wV 0) (wCons (wC (.int 100)) wNil))) wNil)))) wNil)))) wSkip) wb_law_spoilt_10)
def wb_law_spoilt_12 : TDS := (wSeq (wIfS (wTst (wOp gLt (wV 7) (wC (.int 2)))) (wRet (wTup (wCons (wCall 3 c_law_with (wCons (wV 4) (wCons (wV 6) (wCons (wCall 3 c_law_with (wCons (wV 2) (wCons (wV 3) (wCons (wCall 2 c_law_odd (wCons (wV 0) (wCons (wLenN 4) wNil))) wNil)))) wNil)))) (wCons (wV 5) wNil)))) wSkip) wb_law_spoilt_11)
def wb_law_spoilt_13 : TDS := (wSeq (wSet 3 (wCall 2 c_law_draw (wCons (wV 0) (wCons (wCB gMax (wCons (wC (.int 1)) (wCons (wLenN 2) wNil))) wNil)))) wb_law_spoilt_12)
def wb_law_spoilt_14 : TDS := (wSeq (wSet 2 (wIf (wTAnd (wTst (wOp gLt (wV 6) (wLenN 4))) (wTst (wCB gIsi (wCons (wIxN 4 (wV 6)) (wCons (wC (.ty "tuple")) wNil))))) (wIxN 4 (wV 6)) (wTup (wCons (wC (.int 0)) wNil)))) wb_law_spoilt_13)
def wb_law_spoilt_15 : TDS := (wSeq (wPar2 6 7 (wCons (wCall 2 c_law_draw (wCons (wV 0) (wCons (wCB gMax (wCons (wC (.int 1)) (wCons (wLenN 4) wNil))) wNil))) (wCons (wCall 2 c_law_draw (wCons (wV 0) (wCons (wC (.int 11)) wNil))) wNil))) wb_law_spoilt_14)
def wb_law_spoilt : TDS := (wSeq (wAsg (wV 1) (wgTup 2 (wgCons (wgN 4) (wgCons (wgN 5) wgNil)))) wb_law_spoilt_15)
def wb_law_no_pair_1 : TDS := (wRet (wCall 2 c_law_pick (wCons (wV 0) (wCons (wOp gAdd (wV 2) (wLst (wCons (wC (.int 7)) (wCons wDct (wCons (wTup wNil) (wCons (wV 3) (wCons (wV 1) (wCons (wTup (wCons (wV 4) (wCons (wV 3) wNil))) (wCons (wDct1 3) wNil))))))))) wNil))))
def wb_law_no_pair_2 : TDS := (wSeq (wSet 2 (wLst (wCons (wCB gList (wCons (wV 1) wNil)) (wCons (wTup (wCons (wV 3) wNil)) (wCons (wTup (wCons (wV 3) (wCons (wV 4) (wCons (wTup wNil) wNil)))) (wCons (wTup (wCons (wCB gList (wCons (wV 3) wNil)) (wCons (wV 4) wNil))) (wCons (wTup (wCons (wV 3) (wCons (wCB gList (wCons (wV 4) wNil)) wNil))) (wCons (wC .non) (wCons (wC (.str ("teller" : Str))) wNil))))))))) wb_law_no_pair_1)
def wb_law_no_pair : TDS := (wSeq (wAsg (wV 1) (wgTup 2 (wgCons (wgN 3) (wgCons (wgN 4) wgNil)))) wb_law_no_pair_2)
def wb_law_rows_1 : TDS := (wRet (wLst (wCons (wV 2) (wCons (wV 4) (wCons (wOp gAdd (wV 4) (wTup (wCons (wCall 2 c_law_odd (wCons (wV 0) (wCons (wV 1) wNil))) wNil))) (wCons (wCB gList (wCons (wV 2) wNil)) (wCons (wCall 2 c_law_pick (wCons (wV 0) (wCons (wLst (wCons (wC .non) (wCons (wC (.str ("01" : Str))) (wCons (wC (.int 0)) (wCons wDct (wCons (wC (.bl true)) wNil)))))) wNil))) wNil)))))))
def wb_law_rows_2 : TDS := (wSeq (wSet 4 (wOp gAdd (wOp gAdd (wSl (wV 2) woN (woS (wV 3))) (wTup (wCons (wCall 2 c_law_odd (wCons (wV 0) (wCons (wV 1) wNil))) wNil))) (wSl (wV 2) (woS (wOp gAdd (wV 3) (wC (.int 1)))) woN))) wb_law_rows_1)
def wb_law_rows_3 : TDS := (wSeq (wSet 3 (wCall 2 c_law_draw (wCons (wV 0) (wCons (wOp gAdd (wLenN 2) (wC (.int 1))) wNil)))) wb_law_rows_2)
def wb_law_rows : TDS := (wSeq (wSet 2 (wCall 3 c_law_row (wCons (wV 0) (wCons (wV 1) (wCons (wCall 2 c_law_pick (wCons (wV 0) (wCons (wLst (wCons (wCall 2 c_law_draw (wCons (wV 0) (wCons (wC (.int 6)) wNil))) (wCons (wC (.int 40)) (wCons (wC (.int 39)) (wCons (wC (.int 41)) (wCons (wCall 2 c_law_draw (wCons (wV 0) (wCons (wC (.int 42)) wNil))) wNil)))))) wNil))) wNil))))) wb_law_rows_3)
def wb_law_1 : TDS := (wIfS (wTst (wOp (gEq true) (wCB gRepr (wCons (wCall 1 c_teller_error (wCons (wV 5) wNil)) wNil)) (wCB gRepr (wCons (wCall 1 c_law_fault (wCons (wV 5) wNil)) wNil)))) (wRet (wC (.bl false))) wSkip)
def wb_law_2 : TDS := (wIfS (wTst (wOp (gEq true) (wCB gRepr (wCons (wCall 2 c_row_error (wCons (wV 3) (wCons (wV 5) wNil))) wNil)) (wCB gRepr (wCons (wCall 2 c_law_row_fault (wCons (wV 3) (wCons (wV 5) wNil))) wNil)))) (wRet (wC (.bl false))) wSkip)
def wb_law_3 : TDS := (wSeq (wFor (wiSeq (wOp gAdd (wCall 2 c_law_rows (wCons (wV 1) (wCons (wV 3) wNil))) (wLst (wCons (wTup wNil) (wCons (wTup (wCons (wOp gMinus (wV 3) (wC (.int 1))) wNil)) (wCons (wTup (wCons (wV 3) wNil)) wNil)))))) (wgN 5) wb_law_2) (wRet (wC (.bl true))))
def wb_law_4 : TDS := (wSeq (wIfS (wTst (wOp (gEq true) (wCB gRepr (wCons (wCall 1 c_kinds (wCons (wV 2) wNil)) wNil)) (wCB gRepr (wCons (wV 3) wNil)))) (wRet (wC (.bl false))) wSkip) wb_law_3)
def wb_law_5 : TDS := (wSeq (wFor (wiSeq (wV 4)) (wgN 5) wb_law_1) wb_law_4)
def wb_law_6 : TDS := (wSeq (wSet 4 (wOp gAdd (wV 4) (wLst (wCons (wCall 2 c_law_no_pair (wCons (wV 1) (wCons (wV 2) wNil))) (wCons (wCall 2 c_law_spoilt (wCons (wV 1) (wCons (wV 2) wNil))) (wCons (wV 2) wNil)))))) wb_law_5)
def wb_law_7 : TDS := (wSeq (wDrop (wApp 4 (wCall 2 c_law_spoilt (wCons (wV 1) (wCons (wIxN 4 (wC (.int 1))) wNil))))) wb_law_6)
def wb_law_8 : TDS := (wSeq (wSet 4 (wLst (wCons (wV 2) (wCons (wCall 2 c_law_spoilt (wCons (wV 1) (wCons (wV 2) wNil))) wNil)))) wb_law_7)
def wb_law_9 : TDS := (wSeq (wSet 3 (wCB gLen (wCons (wIx (wIxN 2 (wC (.int 0))) (wC (.int 0))) wNil))) wb_law_8)
def wb_law_10 : TDS := (wSeq (wSet 2 (wCall 2 c_law_wide (wCons (wV 1) (wCons (wCall 1 c_law_machine (wCons (wV 1) wNil)) wNil)))) wb_law_9)
def wb_law : TDS := (wSeq (wSet 1 (wCall 1 c_law_bag (wCons (wV 0) wNil))) wb_law_10)
end Ly

namespace Ly
open PySem PySem.Spec PyProof.Rows L2
local macro_rules | `(tactic| walk_at "w") => `(tactic| try simp only [wRet, wRetN, wAndV, wOrV, wNotV, wCB, wCons, wNil, wV, wC, wChain, wTst, wTNot, wTAnd, wTOr, wIf, wOp, wIxN, wIx, wTup, wLst, wLenN, wSeq, wSkip, wIfS, wSet, wAsg, wgTup_iff, wgCons_iff, wgNil_iff, wgN, wCall, wCall0, wPar2, wPar3, wSl, woN, woS, wNeg, wDrop, wDct, wDct1, wListR1, wFor, wiR1, wiR2, wiSeq, wiEn, wiZip, wLc, wYes, wApp, wPop, wgIx,
  gIsi_iff, gLen_iff, gTuple_iff, gList_iff, gAll_iff, gI_iff, gAbs_iff, gMM_iff, gInt_iff, gEq_int, gEq_str, gEq_emp, listOf, gAdd_int, gAdd_tup, gAdd_lst, gAdd_lstN, gAdd_Nlst, gAdd_new, gMul_int, gMul_tup, gIsN_iff, gSl_tup, gSl_lst, gSl_new, sqL, sqT, sqN, ssL, ssT, ssO, dOf_val, dOf_new, svOf_val, svOf_new, kI, kB, kT, wipeD,
  List.getElem?_cons_zero, List.getElem?_cons_succ, List.getElem?_nil, List.set_cons_zero, List.set_cons_succ, List.map_cons, List.map_nil, List.length_cons, List.length_nil, RV.val.injEq, RV.new.injEq, D.bl.injEq, D.int.injEq, D.str.injEq, D.tup.injEq, D.lst.injEq, SV.val.injEq, SV.own.injEq, Option.some.injEq, exists_eq_left', exists_eq_left, exists_and_left, exists_eq_right, true_and, and_true, Bool.not_true, Bool.not_false, Bool.false_eq_true, if_true, if_false, reduceIte, ite_self, Bool.true_xor, Bool.false_xor, Bool.not_eq_true', decide_eq_true_eq, List.cons.injEq, isNon, exists_eq, exists_eq', at0, at1, mvD_len, tlD_len, rowD_def])
theorem h_is_integer : ∀ ds n Q, ds.length = 1 → c_is_integer ds n Q → wb_is_integer { nx := fun _ n' => Q .non n', rt := Q } (startD ["value"] ds) n := by
  rintro ds n Q - ⟨v, rfl, hp, hq⟩
  show wb_is_integer _ [.val v] n
  cases hp <;> (unfold wb_is_integer; walk_at "w"; try exact hq)
theorem h_is_whole : ∀ ds n Q, ds.length = 3 → c_is_whole ds n Q → wb_is_whole { nx := fun _ n' => Q .non n', rt := Q } (startD ["value", "low", "high"] ds) n := by
  rintro ds n Q - ⟨v, lo, hi, rfl, hp, hq⟩
  show wb_is_whole _ [.val v, .val (.int lo), .val (.int hi)] n
  unfold wb_is_whole; walk_at "w"
  refine ⟨v, rfl, hp, ?_⟩
  cases hp <;> (simp only [isInt]; walk_at "w"; try exact hq)
  rename_i i
  simp only [whole] at hq
  by_cases h : lo ≤ i
  · rw [if_pos h]; simpa [h] using hq
  · rw [if_neg h]; simpa [h] using hq
theorem h_whole1 : ∀ ds n Q, ds.length = 3 → c_is_whole ds n Q → wb_law_is_number { nx := fun _ n' => Q .non n', rt := Q } (startD ["value", "least_one", "most_one"] ds) n := by
  rintro ds n Q - ⟨v, lo, hi, rfl, hp, hq⟩
  show wb_law_is_number _ [.val v, .val (.int lo), .val (.int hi)] n
  cases hp <;> (unfold wb_law_is_number; walk_at "w"; try exact hq)
  rename_i i
  simp only [whole] at hq
  by_cases h : lo ≤ i
  · rw [if_pos h]; simpa [h] using hq
  · rw [if_neg h]; simpa [h] using hq
theorem seqS_val {s : D} : seqS (.val s) = seqOf (.val s) := by cases s <;> rfl
theorem atI_ok {l : List D} {k : Int} (h0 : 0 ≤ k) (h1 : k < l.length) : ∃ d, atI l k = some d ∧ d ∈ l := by
  obtain ⟨j, rfl⟩ : ∃ j : Nat, k = j := ⟨k.toNat, by omega⟩
  have hj : j < l.length := by omega
  exact ⟨l[j], atI_nat (List.getElem?_eq_getElem hj), List.getElem_mem hj⟩
theorem ret.mono {n c : Nat} {P P' : D → Prop} {Q : D → Nat → Prop} (h : ret n c P' Q) (i : ∀ d, P d → P' d) : ret n c P Q := ⟨h.1, fun d n' p a b => h.2 d n' (i d p) a b⟩
theorem h_law_pick : ∀ ds n Q, ds.length = 2 → c_law_pick ds n Q → wb_law_pick { nx := fun _ n' => Q .non n', rt := Q } (startD ["bag", "row"] ds) n := by
  rintro ds n Q - ⟨a, s, l, rfl, hs, h1, h2, hb, hr⟩
  show wb_law_pick _ [.val (.bag a), .val s] n
  unfold wb_law_pick; walk_at "w"
  rw [seqS_val, hs]
  refine ⟨⟨l, rfl⟩, l, rfl, a, l.length, rfl, by omega, by omega, hb, fun d n' ⟨k, e, k0, k1⟩ a1 a2 => ?_⟩
  subst e
  obtain ⟨x, hx, hm⟩ := atI_ok (l := l) k0 k1
  exact ⟨l, rfl, k, rfl, x, hx, hr _ _ hm a1 a2⟩
theorem h_law_names : ∀ ds n Q, ds.length = 0 → c_law_names ds n Q → wb_law_names { nx := fun _ n' => Q .non n', rt := Q } (startD [] ds) n := by
  rintro ds n Q - ⟨rfl, hq⟩
  show wb_law_names _ [] n
  unfold wb_law_names; walk_at "w"
  exact ⟨by decide, hq⟩
theorem h_kinds : ∀ ds n Q, ds.length = 1 → c_kinds ds n Q → wb_kinds { nx := fun _ n' => Q .non n', rt := Q } (startD ["teller"] ds) n := by
  rintro ds n Q - ⟨m, s, t, d, rfl, hs, ⟨mv, tl, rfl, h1, h2, h3, h4⟩, hq⟩
  show wb_kinds _ [.val _] n
  unfold wb_kinds; walk_at "w"
  cases mv with
  | nil => simp at h1; omega
  | cons r mv =>
    simp only [mvD, List.map_cons]
    walk_at "w"
    have := (h3 r List.mem_cons_self).1
    rw [List.length_map, this]
    exact hq
theorem h_law_with : ∀ ds n Q, ds.length = 3 → c_law_with ds n Q → wb_law_with { nx := fun _ n' => Q .non n', rt := Q } (startD ["row", "place", "value"] ds) n := by
  rintro ds n Q - ⟨l, p, v, rfl, h1, h2, hq⟩
  show wb_law_with _ [.val _, .val _, .val _] n
  unfold wb_law_with; walk_at "w"
  rw [cut_to, show ((p : Int) + 1) = ((p + 1 : Nat) : Int) by omega, cut_from]
  have a1 : (l.take p).length ≤ 1000 := Nat.le_trans (List.length_take_le _ _) h2
  have a2 : (l.drop (p + 1)).length ≤ 1000 := by rw [List.length_drop]; omega
  exact ⟨by decide, sz (by omega), sz (by rw [List.length_append]; simp only [List.length_cons, List.length_nil]; omega), hq⟩
theorem h_is_pair_of_tuples : ∀ ds n Q, ds.length = 1 → c_is_pair_of_tuples ds n Q → wb_is_pair_of_tuples { nx := fun _ n' => Q .non n', rt := Q } (startD ["value"] ds) n := by
  rintro ds n Q - ⟨v, rfl, hp, hq⟩
  show wb_is_pair_of_tuples _ [.val _] n
  cases hp <;> (unfold wb_is_pair_of_tuples; walk_at "w"; try exact hq)
  rename_i l hl hm
  rw [if_neg (by decide)]
  match l, hm with
  | [], _ => rw [if_pos (by simp)]; exact hq
  | [x], _ => rw [if_pos (by simp)]; have e : isPair (.tup [x]) = false := by cases x <;> rfl
              rw [e] at hq; exact hq
  | [x, y], hm =>
    rw [if_neg (by simp)]
    unfold wb_is_pair_of_tuples_1
    walk_at "w"
    have hx := hm x (by simp)
    have hy := hm y (by simp)
    cases hx <;> cases hy <;> (walk_at "w"; exact hq)
  | x :: y :: z :: r, _ =>
    rw [if_pos (by simp; omega)]
    have e : isPair (.tup (x :: y :: z :: r)) = false := by cases x <;> cases y <;> rfl
    rw [e] at hq; exact hq
theorem h_law_row : ∀ ds n Q, ds.length = 3 → c_law_row ds n Q → wb_law_row { nx := fun _ n' => Q .non n', rt := Q } (startD ["bag", "many", "long", "turn"] ds) n := by
  rintro ds n Q - ⟨a, m, l, rfl, h1, h2, h3, hb, hr⟩
  show wb_law_row _ [.val _, .val _, .val _, .un] n
  unfold wb_law_row; walk_at "w"
  refine ⟨⟨by omega, by omega⟩, ?_⟩
  refine comp_inv (fun i acc ρ n' => ρ = [.val (.bag a), .val (.int m), .val (.int l), .un] ∧ n ≤ n' ∧ n' ≤ n + i ∧ ∃ r : List Int, acc = r.map .int ∧ r.length = i ∧ ∀ x ∈ r, 0 ≤ x ∧ x < (m : Int)) ?_ ⟨rfl, Nat.le_refl _, Nat.le_refl _, [], rfl, rfl, by simp⟩ ?_
  · rintro i d acc ρ n' hd ⟨rfl, b1, b2, r, rfl, hr1, hr2⟩ K hK
    obtain ⟨hi, rfl⟩ := rgD_get hd
    walk_at "w"
    refine ⟨a, m, rfl, by omega, by omega, by omega, ?_⟩
    rintro d n2 ⟨k, rfl, k0, k1⟩ c1 c2
    refine ⟨szl (by rw [List.length_map, hr1]; omega), hK _ _ _ ⟨rfl, by omega, by omega, r ++ [k], by simp, by simp [hr1], ?_⟩⟩
    intro x hx
    rcases List.mem_append.mp hx with hx | hx
    · exact hr2 x hx
    · simp at hx; subst hx; exact ⟨k0, k1⟩
  · rintro acc ρ n' ⟨rfl, b1, b2, r, rfl, hr1, hr2⟩
    rw [rgD_len] at b2 hr1
    exact hr _ _ ⟨r, rfl, by omega, hr2⟩ b1 (by omega)
theorem h_law_odd : ∀ ds n Q, ds.length = 2 → c_law_odd ds n Q → wb_law_odd { nx := fun _ n' => Q .non n', rt := Q } (startD ["jar", "bound"] ds) n := by
  rintro ds n Q - ⟨a, b, rfl, hb, hr⟩
  show wb_law_odd _ [.val _, .val _] n
  unfold wb_law_odd; walk_at "w"
  refine ⟨by decide, by decide, ⟨by decide, by decide, by decide⟩, by decide, by decide, a, _, _, rfl, rfl, by simp, by simp, hb, ?_⟩
  intro d n' hd b1 b2
  refine hr d n' ?_ b1 b2
  simp only [List.mem_cons, List.not_mem_nil, or_false] at hd
  rcases hd with rfl | rfl | rfl | rfl | rfl | rfl | rfl | rfl | rfl | rfl | rfl | rfl <;> first | constructor | skip
  · simp
  · intro d hd; simp at hd; subst hd; constructor
  · simp
  · intro d hd; simp at hd; subst hd; constructor
  · simp
  · intro d hd; simp at hd
end Ly

namespace Ly
open PySem PySem.Spec PyProof.Rows L2
local macro_rules | `(tactic| walk_at "w") => `(tactic| try simp only [wRet, wRetN, wAndV, wOrV, wNotV, wCB, wCons, wNil, wV, wC, wChain, wTst, wTNot, wTAnd, wTOr, wIf, wOp, wIxN, wIx, wTup, wLst, wLenN, wSeq, wSkip, wIfS, wSet, wAsg, wgTup_iff, wgCons_iff, wgNil_iff, wgN, wCall, wCall0, wPar2, wPar3, wSl, woN, woS, wNeg, wDrop, wDct, wDct1, wListR1, wFor, wiR1, wiR2, wiSeq, wiEn, wiZip, wLc, wYes, wApp, wPop, wgIx,
  gIsi_iff, gLen_iff, gTuple_iff, gList_iff, gAll_iff, gI_iff, gAbs_iff, gMM_iff, gInt_iff, gEq_int, gEq_str, gEq_emp, listOf, gAdd_int, gAdd_tup, gAdd_lst, gAdd_lstN, gAdd_Nlst, gAdd_new, gMul_int, gMul_tup, gIsN_iff, gSl_tup, gSl_lst, gSl_new, sqL, sqT, sqN, ssL, ssT, ssO, dOf_val, dOf_new, svOf_val, svOf_new, kI, kB, kT, wipeD,
  List.getElem?_cons_zero, List.getElem?_cons_succ, List.getElem?_nil, List.set_cons_zero, List.set_cons_succ, List.map_cons, List.map_nil, List.length_cons, List.length_nil, RV.val.injEq, RV.new.injEq, D.bl.injEq, D.int.injEq, D.str.injEq, D.tup.injEq, D.lst.injEq, SV.val.injEq, SV.own.injEq, Option.some.injEq, exists_eq_left', exists_eq_left, exists_and_left, exists_eq_right, true_and, and_true, Bool.not_true, Bool.not_false, Bool.false_eq_true, if_true, if_false, reduceIte, ite_self, Bool.true_xor, Bool.false_xor, Bool.not_eq_true', decide_eq_true_eq, List.cons.injEq, isNon, exists_eq, exists_eq', at0, at1, mvD_len, tlD_len, rowD_def])
theorem h_law_any : ∀ ds n Q, ds.length = 4 → c_law_any ds n Q → wb_law_any { nx := fun _ n' => Q .non n', rt := Q } (startD ["bag", "states", "many", "top", "moves", "state", "letter"] ds) n := by
  rintro ds n Q - ⟨a, s, m, t, rfl, h1, h2, h3, h4, h5, h6, hb, hr⟩
  show wb_law_any _ [.val _, .val _, .val _, .val _, .un, .un, .un] n
  unfold wb_law_any; walk_at "w"
  refine ⟨⟨by omega, by omega⟩, ?_⟩
  refine comp_map (fun _ d => ∃ r : List Int, d = rowD r ∧ r.length = m ∧ ∀ x ∈ r, 0 ≤ x ∧ x < (s : Int)) 3 ?_ (by rw [rgD_len]; omega) ?_
  · intro i d n' hd b1 b2 K hK
    obtain ⟨hi, rfl⟩ := rgD_get hd
    walk_at "w"
    refine ⟨⟨by omega, by omega⟩, ?_⟩
    refine comp_map (fun _ d => ∃ k, d = .int k ∧ 0 ≤ k ∧ k < (s : Int)) 1 ?_ (by rw [rgD_len]; omega) ?_
    · intro j d n2 hd c1 c2 K2 hK2
      obtain ⟨hj, rfl⟩ := rgD_get hd
      walk_at "w"
      refine ⟨a, s, rfl, by omega, by omega, by omega, fun d n3 hd e1 e2 => hK2 _ _ _ hd rfl e1 e2⟩
    · intro l n2 hl hP c1 c2
      rw [rgD_len] at hl c2
      obtain ⟨r, rfl, hr⟩ := all_ints hP
      rw [List.length_map] at hl
      exact hK _ _ _ ⟨r, rfl, by omega, hr⟩ rfl c1 (by omega)
  · intro l n' hl hP b1 b2
    rw [rgD_len] at hl b2
    obtain ⟨mv, rfl, hmv⟩ := all_map hP
    rw [List.length_map] at hl
    unfold wb_law_any_1; walk_at "w"
    refine ⟨⟨by omega, by omega⟩, ?_⟩
    refine comp_map (fun _ d => ∃ k, d = .int k ∧ 0 ≤ k ∧ k ≤ t) 1 ?_ (by rw [rgD_len]; omega) ?_
    · intro j d n2 hd c1 c2 K2 hK2
      obtain ⟨hj, rfl⟩ := rgD_get hd
      walk_at "w"
      refine ⟨a, t + 1, rfl, by omega, by omega, by omega, fun d n3 ⟨k, hd, k0, k1⟩ e1 e2 => hK2 _ _ _ ⟨k, hd, k0, by omega⟩ rfl e1 e2⟩
    · intro l n2 hl2 hP2 c1 c2
      rw [rgD_len] at hl2 c2
      obtain ⟨tl, rfl, htl⟩ := all_ints hP2
      rw [List.length_map] at hl2
      exact ⟨by decide, hr _ _ ⟨mv, tl, rfl, by omega, by omega, hmv, htl⟩ (by omega) (by omega)⟩
theorem h_law_growing : ∀ ds n Q, ds.length = 4 → c_law_growing ds n Q → wb_law_growing { nx := fun _ n' => Q .non n', rt := Q } (startD ["bag", "states", "many", "top", "moves", "state", "row", "letter"] ds) n := by
  rintro ds n Q - ⟨a, s, m, t, rfl, h1, h2, h3, h4, h5, h6, hb, hr⟩
  show wb_law_growing _ [.val _, .val _, .val _, .val _, .un, .un, .un, .un] n
  unfold wb_law_growing; walk_at "w"
  refine ⟨Nat.zero_le _, ?_⟩
  unfold wb_law_growing_5; walk_at "w"
  refine ⟨⟨by omega, by omega⟩, ?_⟩
  refine loop_inv (fun i ρ n' => ∃ (mv : List (List Int)) (x5 x6 x7 : SV), ρ = [.val (.bag a), .val (.int s), .val (.int m), .val (.int t), .own (mvD mv), x5, x6, x7] ∧ mv.length = i ∧ (∀ r ∈ mv, r.length = m ∧ ∀ x ∈ r, 0 ≤ x ∧ x < (s : Int)) ∧ n ≤ n' ∧ n' ≤ n + 6 * i)
    ?_ ⟨[], .un, .un, .un, rfl, rfl, by simp, Nat.le_refl _, Nat.le_refl _⟩ ?_
  · rintro i d ρ n' hd ⟨mv, x5, x6, x7, rfl, e1, e2, b1, b2⟩ NX hNX
    obtain ⟨hi, rfl⟩ := rgD_get hd
    rw [show ((s : Int)).toNat = s by omega] at hi
    unfold wb_law_growing_3; walk_at "w"
    refine ⟨⟨by omega, by omega⟩, ?_⟩
    refine comp_map (fun _ d => ∃ k, d = .int k ∧ 0 ≤ k ∧ k < (s : Int)) 1 ?_ (by rw [rgD_len]; omega) ?_
    · intro j d n2 hd c1 c2 K2 hK2
      obtain ⟨hj, rfl⟩ := rgD_get hd
      rw [show ((m : Int)).toNat = m by omega] at hj
      walk_at "w"
      refine ⟨a, 2, rfl, by omega, by omega, by omega, ?_⟩
      rintro d n3 ⟨k, rfl, k0, k1⟩ f1 f2
      walk_at "w"
      refine hK2 _ _ _ ⟨_, rfl, ?_⟩ rfl f1 f2
      split <;> omega
    · intro l n2 hl hP c1 c2
      rw [rgD_len, show ((m : Int)).toNat = m by omega] at hl c2
      obtain ⟨r, rfl, hr⟩ := all_ints hP
      rw [List.length_map] at hl
      unfold wb_law_growing_2; walk_at "w"
      -- what stands behind: the row is laid into moves
      have last : ∀ (r : List Int) n3, r.length = m → (∀ x ∈ r, 0 ≤ x ∧ x < (s : Int)) → n ≤ n3 → n3 ≤ n + 6 * (i + 1) →
          wb_law_growing_1 { nx := NX, rt := Q, bk := fun ρ1 n1 => wb_law_growing_4 { nx := fun x n' => Q D.non n', rt := Q } ρ1 n1, ct := NX } [.val (.bag a), .val (.int s), .val (.int m), .val (.int t), .own (mvD mv), .val (.int (0 + (i : Nat))), .own (r.map .int), .un] n3 := by
        intro r n3 g1 g2 g3 g4
        unfold wb_law_growing_1; walk_at "w"
        refine ⟨szl (by omega), hNX _ _ ⟨mv ++ [r], .val (.int (0 + (i : Nat))), .val (.lst (r.map .int)), .un, ?_, by simp [e1], ?_, g3, g4⟩⟩
        · simp [mvD, rowD]
        · intro q hq
          rcases List.mem_append.mp hq with hq | hq
          · exact e2 q hq
          · simp at hq; subst hq; exact ⟨g1, g2⟩
      refine ⟨a, 6, rfl, by omega, by omega, by omega, ?_⟩
      rintro d n3 ⟨k, rfl, k0, k1⟩ f1 f2
      walk_at "w"
      by_cases hk : k = 0
      · rw [if_pos hk]
        refine ⟨a, s, rfl, by omega, by omega, by omega, ?_⟩
        rintro d n4 ⟨k2, rfl, k20, k21⟩ f3 f4
        walk_at "w"
        refine ⟨a, m, rfl, by omega, by omega, by omega, ?_⟩
        rintro d n5 ⟨k3, rfl, k30, k31⟩ f5 f6
        obtain ⟨j, rfl⟩ : ∃ j : Nat, k3 = j := ⟨k3.toNat, by omega⟩
        refine ⟨j, rfl, j, ?_, ?_⟩
        · unfold ixN; rw [if_pos (by omega), if_pos (by rw [List.length_map]; omega)]; rfl
        · walk_at "w"
          have e0 : (r.map D.int).set j (.int k2) = (r.set j k2).map .int := by rw [List.map_set]
          rw [e0]
          refine last (r.set j k2) n5 (by rw [List.length_set]; omega) ?_ (by omega) (by omega)
          intro x hx
          rcases List.mem_or_eq_of_mem_set hx with hx | hx
          · exact hr x hx
          · subst hx; exact ⟨k20, k21⟩
      · rw [if_neg hk]
        exact last r n3 (by omega) hr (by omega) (by omega)
  · rintro ρ n' ⟨mv, x5, x6, x7, rfl, e1, e2, b1, b2⟩
    rw [rgD_len, show ((s : Int)).toNat = s by omega] at e1 b2
    unfold wb_law_growing_4; walk_at "w"
    refine ⟨⟨by omega, by omega⟩, ?_⟩
    refine comp_map (fun _ d => ∃ k, d = .int k ∧ 0 ≤ k ∧ k ≤ t) 1 ?_ (by rw [rgD_len]; omega) ?_
    · intro j d n2 hd c1 c2 K2 hK2
      obtain ⟨hj, rfl⟩ := rgD_get hd
      walk_at "w"
      refine ⟨a, t + 1, rfl, by omega, by omega, by omega, fun d n3 ⟨k, hd, k0, k1⟩ e1 e2 => hK2 _ _ _ ⟨k, hd, k0, by omega⟩ rfl e1 e2⟩
    · intro l n2 hl2 hP2 c1 c2
      rw [rgD_len] at hl2 c2
      obtain ⟨tl, rfl, htl⟩ := all_ints hP2
      rw [List.length_map] at hl2
      exact ⟨by decide, hr _ _ ⟨mv, tl, rfl, by omega, by omega, e2, htl⟩ (by omega) (by omega)⟩
theorem h_law_bent : ∀ ds n Q, ds.length = 2 → c_law_bent ds n Q → wb_law_bent { nx := fun _ n' => Q .non n', rt := Q } (startD ["bag", "machine", "state", "letter", "row", "moves", "tells"] ds) n := by
  rintro ds n Q - ⟨a, d, s, m, t, rfl, h1, h2, h3, h4, h5, ⟨mv, tl, rfl, k1, k2_eq, k3, k4⟩, hb, hr⟩
  show wb_law_bent _ [.val _, .val _, .un, .un, .un, .un, .un] n
  unfold wb_law_bent; walk_at "w"
  unfold wb_law_bent_5; walk_at "w"
  subst k1
  refine ⟨a, mv.length, rfl, by omega, by omega, by omega, ?_⟩
  rintro d n2 ⟨k, rfl, q0, q1⟩ f1 f2
  obtain ⟨k, rfl⟩ : ∃ j : Nat, k = j := ⟨k.toNat, by omega⟩
  have hk : k < mv.length := by omega
  have hkt : k < tl.length := by omega
  unfold wb_law_bent_4; walk_at "w"
  refine ⟨a, 2, rfl, by omega, by omega, by omega, ?_⟩
  rintro d n3 ⟨k2, rfl, q2, q3⟩ f3 f4
  walk_at "w"
  by_cases h0 : k2 = 0
  · rw [if_pos h0, cut_to, show ((k : Int) + 1) = ((k + 1 : Nat) : Int) by omega, cut_from]
    refine ⟨by decide, a, _, _, rfl, rfl, by simp, by simp, by omega, ?_⟩
    intro d n4 hd g1 g2
    obtain ⟨x, rfl, hx0, hx1⟩ : ∃ x, d = .int x ∧ 0 ≤ x ∧ x ≤ 99 := by
      simp only [List.mem_cons, List.not_mem_nil, or_false] at hd
      rcases hd with rfl | rfl | rfl | rfl <;> exact ⟨_, rfl, by omega, by omega⟩
    walk_at "w"
    have a1 : ((tlD tl).take k).length ≤ 24 := Nat.le_trans (List.length_take_le' _ _) (by rw [tlD_len]; omega)
    have a2 : ((tlD tl).drop (k + 1)).length ≤ 24 := by rw [List.length_drop, tlD_len]; omega
    refine ⟨by decide, sz (by omega), sz (by rw [List.length_append]; simp only [List.length_cons, List.length_nil]; omega), by decide, ?_⟩
    rw [tlD_cut]
    refine hr _ _ ⟨mv, _, rfl, rfl, by rw [cut_len hkt]; exact k2_eq, k3, ?_⟩ (by omega) (by omega)
    intro y hy
    rcases cut_mem hy with hy | hy
    · have := k4 y hy; omega
    · subst hy; exact ⟨hx0, hx1⟩
  · rw [if_neg h0]
    unfold wb_law_bent_3; walk_at "w"
    have h00 : 0 < mv.length := by omega
    refine ⟨_, mv_at0 h00, ?_⟩
    have hm0 : mv[0].length = m := (k3 _ (List.getElem_mem h00)).1
    walk_at "w"
    refine ⟨a, m, by rw [List.length_map, hm0], by omega, by omega, by omega, ?_⟩
    rintro d n4 ⟨k5, rfl, q4, q5⟩ g1 g2
    obtain ⟨k5, rfl⟩ : ∃ j : Nat, k5 = j := ⟨k5.toNat, by omega⟩
    unfold wb_law_bent_2; walk_at "w"
    have hm1 : mv[k].length = m := (k3 _ (List.getElem_mem hk)).1
    refine ⟨_, mv_at hk, ?_⟩
    walk_at "w"
    refine ⟨a, mv.length, rfl, by omega, by omega, by omega, ?_⟩
    rintro d n5 ⟨x, rfl, x0, x1⟩ g3 g4
    walk_at "w"
    rw [cut_to]
    have a1 : (((mv[k]).map D.int).take k5).length ≤ 3 := Nat.le_trans (List.length_take_le' _ _) (by rw [List.length_map]; omega)
    refine ⟨by decide, sz (by omega), _, mv_at hk, ?_⟩
    walk_at "w"
    rw [show ((k5 : Int) + 1) = ((k5 + 1 : Nat) : Int) by omega, cut_from]
    have a2 : (((mv[k]).map D.int).drop (k5 + 1)).length ≤ 3 := by rw [List.length_drop, List.length_map]; omega
    refine ⟨sz (by rw [List.length_append]; simp only [List.length_cons, List.length_nil]; omega), ?_⟩
    rw [int_cut, ← rowD_def]
    unfold wb_law_bent_1; walk_at "w"
    rw [cut_to, show ((k : Int) + 1) = ((k + 1 : Nat) : Int) by omega, cut_from]
    have a3 : ((mvD mv).take k).length ≤ 24 := Nat.le_trans (List.length_take_le' _ _) (by rw [mvD_len]; omega)
    have a4 : ((mvD mv).drop (k + 1)).length ≤ 24 := by rw [List.length_drop, mvD_len]; omega
    refine ⟨by decide, sz (by omega), sz (by rw [List.length_append]; simp only [List.length_cons, List.length_nil]; omega), by decide, ?_⟩
    rw [← rowD_def, mvD_cut]
    refine hr _ _ ⟨_, tl, rfl, cut_len hk, k2_eq, ?_, fun y hy => ?_⟩ (by omega) (by omega)
    · intro r hrm
      rcases cut_mem hrm with hrm | hrm
      · exact k3 r hrm
      · subst hrm
        refine ⟨by rw [cut_len (by omega)]; exact hm1, fun y hy => ?_⟩
        rcases cut_mem hy with hy | hy
        · exact (k3 _ (List.getElem_mem hk)).2 y hy
        · subst hy; exact ⟨x0, x1⟩
    · have := k4 y hy; omega
theorem h_law_wide : ∀ ds n Q, ds.length = 2 → c_law_wide ds n Q → wb_law_wide { nx := fun _ n' => Q .non n', rt := Q } (startD ["bag", "machine", "room"] ds) n := by
  rintro ds n Q - ⟨a, d, s, m, t, rfl, h1, h2, h3, h4, hM, hb, hr⟩
  obtain ⟨mv, tl, rfl, k1, k2, k3, k4⟩ := id hM
  show wb_law_wide _ [.val _, .val _, .un] n
  unfold wb_law_wide; walk_at "w"
  unfold wb_law_wide_1; walk_at "w"
  refine ⟨a, 24 - s + 1, by rw [k1], by omega, by omega, by omega, ?_⟩
  rintro d n2 ⟨k, rfl, q0, q1⟩ f1 f2
  walk_at "w"
  refine ⟨by decide, a, _, _, rfl, rfl, by simp, by simp, by omega, ?_⟩
  intro d n3 hd g1 g2
  obtain ⟨x, rfl, hx0, hx1⟩ : ∃ x, d = .int x ∧ 0 ≤ x ∧ x ≤ 24 - (s : Int) := by
    simp only [List.mem_cons, List.not_mem_nil, or_false] at hd
    rcases hd with rfl | rfl | rfl <;> exact ⟨_, rfl, by omega, by omega⟩
  walk_at "w"
  obtain ⟨x, rfl⟩ : ∃ j : Nat, x = j := ⟨x.toNat, by omega⟩
  refine ⟨a, _, s, m, s + x, t, by rw [k1, show ((s : Int) + (x : Int)) = ((s + x : Nat) : Int) by omega], h1, by omega, by omega, h3, h4, hM, by omega, ?_⟩
  intro d n4 hd e1 e2
  exact hr _ _ ⟨s + x, by omega, by omega, hd⟩ (by omega) (by omega)
end Ly

namespace Ly
open PySem PySem.Spec PyProof.Rows L2
local macro_rules | `(tactic| walk_at "w") => `(tactic| try simp only [wRet, wRetN, wAndV, wOrV, wNotV, wCB, wCons, wNil, wV, wC, wChain, wTst, wTNot, wTAnd, wTOr, wIf, wOp, wIxN, wIx, wTup, wLst, wLenN, wSeq, wSkip, wIfS, wSet, wAsg, wgTup_iff, wgCons_iff, wgNil_iff, wgN, wCall, wCall0, wPar2, wPar3, wSl, woN, woS, wNeg, wDrop, wDct, wDct1, wListR1, wFor, wiR1, wiR2, wiSeq, wiEn, wiZip, wLc, wYes, wApp, wPop, wgIx,
  gIsi_iff, gLen_iff, gTuple_iff, gList_iff, gAll_iff, gI_iff, gAbs_iff, gMM_iff, gInt_iff, gEq_int, gEq_str, gEq_emp, listOf, gAdd_int, gAdd_tup, gAdd_lst, gAdd_lstN, gAdd_Nlst, gAdd_new, gMul_int, gMul_tup, gIsN_iff, gSl_tup, gSl_lst, gSl_new, sqL, sqT, sqN, ssL, ssT, ssO, dOf_val, dOf_new, svOf_val, svOf_new, kI, kB, kT, wipeD,
  List.getElem?_cons_zero, List.getElem?_cons_succ, List.getElem?_nil, List.set_cons_zero, List.set_cons_succ, List.map_cons, List.map_nil, List.length_cons, List.length_nil, RV.val.injEq, RV.new.injEq, D.bl.injEq, D.int.injEq, D.str.injEq, D.tup.injEq, D.lst.injEq, SV.val.injEq, SV.own.injEq, Option.some.injEq, exists_eq_left', exists_eq_left, exists_and_left, exists_eq_right, true_and, and_true, Bool.not_true, Bool.not_false, Bool.false_eq_true, if_true, if_false, reduceIte, ite_self, Bool.true_xor, Bool.false_xor, Bool.not_eq_true', decide_eq_true_eq, List.cons.injEq, isNon, exists_eq, exists_eq', at0, at1, mvD_len, tlD_len, rowD_def])
theorem mulle {a b c : Nat} (h : a + 1 ≤ b) : (a : Int) * (c : Int) + c ≤ (b : Int) * c := by
  have h2 : (a + 1) * c ≤ b * c := Nat.mul_le_mul_right c h
  have h3 : ((a + 1) * c : Nat) = a * c + c := by rw [Nat.add_mul, Nat.one_mul]
  have e1 : (a : Int) * (c : Int) = ((a * c : Nat) : Int) := by simp
  have e2 : (b : Int) * (c : Int) = ((b * c : Nat) : Int) := by simp
  rw [e1, e2]; omega
theorem int_mem {tl : List Int} {k : Nat} {x : Int} (h : tl[k]? = some x) : x ∈ tl := List.mem_of_getElem? h
theorem map_get {α : Type} {f : α → D} {l : List α} {i : Nat} {d : D} (h : (l.map f)[i]? = some d) : ∃ x, l[i]? = some x ∧ d = f x := by
  rw [List.getElem?_map] at h
  cases q : l[i]? with
  | none => rw [q] at h; cases h
  | some x => rw [q] at h; cases h; exact ⟨x, rfl, rfl⟩
theorem zip_len {xs ys : List D} : (zipD xs ys).length = min xs.length ys.length := by unfold zipD; rw [List.length_zipWith]
theorem h_law_by_length : ∀ ds n Q, ds.length = 2 → c_law_by_length ds n Q → wb_law_by_length { nx := fun _ n' => Q .non n', rt := Q } (startD ["one", "other", "place", "moves", "tells", "wide", "goals", "odd", "left", "right", "first", "second"] ds) n := by
  rintro ds n Q - ⟨d, e, s, u, m, t, rfl, h1, h2, h3, h4, h5, ⟨mv, tl, rfl, k1, k2, k3, k4⟩, ⟨mv', tl', rfl, l1, l2, l3, l4⟩, hb, hr⟩
  show wb_law_by_length _ [.val _, .val _, .un, .un, .un, .un, .un, .un, .un, .un, .un, .un] n
  have hsu : s * u ≤ 12 := by rw [Nat.mul_assoc] at h3; omega
  have hs : s ≤ 24 := Nat.le_trans (Nat.le_mul_of_pos_right s h2) (by omega)
  have hu : u ≤ 24 := Nat.le_trans (Nat.le_mul_of_pos_left u h1) (by omega)
  unfold wb_law_by_length; walk_at "w"
  refine ⟨Nat.zero_le _, Nat.zero_le _, _, _, _, ⟨rfl, rfl, rfl⟩, ?_⟩
  rw [l1]
  unfold wb_law_by_length_8; walk_at "w"
  rw [k1]
  have hN : (2 * (s : Int) * (u : Int)) = ((2 * s * u : Nat) : Int) := by simp
  refine ⟨.inl ⟨by omega, by omega⟩, .inl ⟨by omega, by omega⟩, ⟨by omega, by omega⟩, ?_⟩
  rw [hN, Int.toNat_natCast]
  refine loop_inv (fun i ρ n' => n' = n ∧ ∃ (mw : List (List Int)) (tw : List Int) (x2 x6 x7 x8 x9 x10 x11 : SV), ρ = [.val (.tup [.tup (mvD mv), .tup (tlD tl)]), .val (.tup [.tup (mvD mv'), .tup (tlD tl')]), x2, .own (mvD mw), .own (tlD tw), .val (.int (u : Nat)), x6, x7, x8, x9, x10, x11] ∧ mw.length = i ∧ tw.length = i ∧
      (∀ r ∈ mw, r.length = m ∧ ∀ x ∈ r, 0 ≤ x ∧ x < ((2 * s * u : Nat) : Int)) ∧ ∀ x ∈ tw, 0 ≤ x ∧ x ≤ t) ?_ ⟨rfl, [], [], .un, .un, .un, .un, .un, .un, .un, rfl, rfl, rfl, by simp, by simp⟩ ?_
  · rintro i d ρ n' hd ⟨rfl, mw, tw, x2, x6, x7, x8, x9, x10, x11, rfl, e1, e2, e3, e4⟩ NX hNX
    obtain ⟨hi, rfl⟩ := rgD_get hd
    have hi2 : i / 2 < s * u := by rw [Nat.mul_assoc] at hi; omega
    have hleft : i / 2 / u < s := Nat.div_lt_of_lt_mul (by rw [Nat.mul_comm]; exact hi2)
    have hright : i / 2 % u < u := Nat.mod_lt _ h2
    unfold wb_law_by_length_6; walk_at "w"
    simp only [Int.zero_add]
    have a1 : (i : Int).fdiv 2 = ((i / 2 : Nat) : Int) := fdivN i 2
    have a0 : (i : Int).fmod 2 = ((i % 2 : Nat) : Int) := fmodN i 2
    rw [a1, a0, fdivN, fmodN]
    refine ⟨by decide, ⟨by decide, by decide⟩, ⟨by omega, by omega⟩, ⟨by decide, by decide⟩, by omega, _, _, _, ⟨rfl, rfl, rfl⟩, ?_⟩
    unfold wb_law_by_length_5; walk_at "w"
    refine ⟨Nat.zero_le _, ?_⟩
    unfold wb_law_by_length_4; walk_at "w"
    have hl' : i / 2 / u < mv.length := by omega
    have hr' : i / 2 % u < mv'.length := by omega
    refine ⟨_, mv_at hl', _, mv_at hr', _, _, ⟨rfl, rfl⟩, .inl ⟨_, rfl, _, rfl, ?_⟩⟩
    have hml : (mv[i / 2 / u]).length = m := (k3 _ (List.getElem_mem hl')).1
    have hmr : (mv'[i / 2 % u]).length = m := (l3 _ (List.getElem_mem hr')).1
    refine loop_inv (fun j ρ n2 => n2 = n' ∧ ∃ (g : List Int) (y10 y11 : SV), ρ = [.val (.tup [.tup (mvD mv), .tup (tlD tl)]), .val (.tup [.tup (mvD mv'), .tup (tlD tl')]), .val (.int (i : Nat)), .own (mvD mw), .own (tlD tw), .val (.int (u : Nat)), .own (g.map .int), .val (.int (i % 2 : Nat)), .val (.int (i / 2 / u : Nat)), .val (.int (i / 2 % u : Nat)), y10, y11] ∧ g.length = j ∧ ∀ x ∈ g, 0 ≤ x ∧ x < ((2 * s * u : Nat) : Int))
      ?_ ⟨rfl, [], _, _, rfl, rfl, by simp⟩ ?_
    · rintro j d ρ n2 hd ⟨rfl, g, y10, y11, rfl, f1, f2⟩ NX2 hNX2
      obtain ⟨x0, y0, hx0, hy0, rfl⟩ := zipD_get hd
      obtain ⟨x, hx, e5⟩ := map_get hx0
      obtain ⟨y, hy, e6⟩ := map_get hy0
      subst e5 e6
      have hxm := (k3 _ (List.getElem_mem hl')).2 x (int_mem hx)
      have hym := (l3 _ (List.getElem_mem hr')).2 y (int_mem hy)
      obtain ⟨x, rfl⟩ : ∃ j : Nat, x = j := ⟨x.toNat, by omega⟩
      have hmul := mulle (a := x) (b := s) (c := u) (by omega)
      have hjm : j < m := by
        have := (List.getElem?_eq_some_iff.mp hx).1
        omega
      have hsu' : (s : Int) * (u : Int) = ((s * u : Nat) : Int) := by simp
      have h2su : ((2 * s * u : Nat) : Int) = 2 * ((s * u : Nat) : Int) := by rw [Nat.mul_assoc]; simp
      have hpos : (0 : Int) ≤ (x : Int) * (u : Int) := Int.mul_nonneg (by omega) (by omega)
      have hodd : i % 2 < 2 := Nat.mod_lt _ (by decide)
      walk_at "w"
      unfold wb_law_by_length_1; walk_at "w"
      refine ⟨.inl ⟨by omega, by omega⟩, .inl ⟨by omega, by omega⟩, szl (by rw [List.length_map]; omega), hNX2 _ _ ⟨rfl, g ++ [2 * ((x : Int) * (u : Int) + y) + 1 - ((i % 2 : Nat) : Int)], .val (.int (x : Nat)), .val (.int y), ?_, by simp [f1], ?_⟩⟩
      · rw [List.map_append]; rfl
      · intro z hz
        rcases List.mem_append.mp hz with hz | hz
        · exact f2 z hz
        · simp at hz; subst hz
          rw [h2su]; omega
    · rintro ρ n2 ⟨rfl, g, y10, y11, rfl, f1, f2⟩
      rw [zip_len, List.length_map, List.length_map, hml, hmr, Nat.min_self] at f1
      unfold wb_law_by_length_3; walk_at "w"
      refine ⟨szl (by omega), ?_⟩
      unfold wb_law_by_length_2; walk_at "w"
      have fin : ∀ z : Int, 0 ≤ z → z ≤ t → NX [.val (.tup [.tup (mvD mv), .tup (tlD tl)]), .val (.tup [.tup (mvD mv'), .tup (tlD tl')]), .val (.int (i : Nat)), .own (mvD mw ++ [.tup (g.map .int)]), .own (tlD tw ++ [.int z]), .val (.int (u : Nat)), .val (.lst (g.map .int)), .val (.int (i % 2 : Nat)), .val (.int (i / 2 / u : Nat)), .val (.int (i / 2 % u : Nat)), y10, y11] n2 := by
        intro z z0 z1
        refine hNX _ _ ⟨rfl, mw ++ [g], tw ++ [z], .val (.int (i : Nat)), .val (.lst (g.map .int)), .val (.int (i % 2 : Nat)), .val (.int (i / 2 / u : Nat)), .val (.int (i / 2 % u : Nat)), y10, y11, ?_, by simp [e1], by simp [e2], ?_, ?_⟩
        · simp only [mvD, tlD, List.map_append, List.map_cons, List.map_nil, rowD]
        · intro r hrr
          rcases List.mem_append.mp hrr with hrr | hrr
          · exact e3 r hrr
          · simp at hrr; subst hrr; exact ⟨f1, f2⟩
        · intro z' hz
          rcases List.mem_append.mp hz with hz | hz
          · exact e4 z' hz
          · simp at hz; subst hz; exact ⟨z0, z1⟩
      have hl2 : i / 2 / u < tl.length := by omega
      have hr2 : i / 2 % u < tl'.length := by omega
      by_cases ho : ((i % 2 : Nat) : Int) = 1
      · rw [if_pos ho]
        refine ⟨_, tl_at hr2, szl (by omega), fin _ ?_ ?_⟩
        · exact (l4 _ (List.getElem_mem hr2)).1
        · exact (l4 _ (List.getElem_mem hr2)).2
      · rw [if_neg ho]
        refine ⟨_, tl_at hl2, szl (by omega), fin _ ?_ ?_⟩
        · exact (k4 _ (List.getElem_mem hl2)).1
        · exact (k4 _ (List.getElem_mem hl2)).2
  · rintro ρ n' ⟨rfl, mw, tw, x2, x6, x7, x8, x9, x10, x11, rfl, e1, e2, e3, e4⟩
    rw [rgD_len] at e1 e2
    unfold wb_law_by_length_7; walk_at "w"
    exact ⟨by decide, hr _ _ ⟨mw, tw, rfl, e1, e2, e3, e4⟩ (Nat.le_refl _) (Nat.le_refl _)⟩
theorem h_law_both : ∀ ds n Q, ds.length = 2 → c_law_both ds n Q → wb_law_both { nx := fun _ n' => Q .non n', rt := Q } (startD ["one", "other", "place", "wide", "moves", "tells", "goals", "left", "right", "first", "second"] ds) n := by
  rintro ds n Q - ⟨d, e, s, u, m, t, v, rfl, h1, h2, h3, h4, h5, t0, t1, v0, v1, ⟨mv, tl, rfl, k1, k2, k3, k4⟩, ⟨mv', tl', rfl, l1, l2, l3, l4⟩, hb, hr⟩
  show wb_law_both _ [.val _, .val _, .un, .un, .un, .un, .un, .un, .un, .un, .un] n
  have hs : s ≤ 24 := Nat.le_trans (Nat.le_mul_of_pos_right s h2) (by omega)
  have hu : u ≤ 24 := Nat.le_trans (Nat.le_mul_of_pos_left u h1) (by omega)
  unfold wb_law_both; walk_at "w"
  refine ⟨Nat.zero_le _, Nat.zero_le _, _, _, _, ⟨rfl, rfl, rfl⟩, ?_⟩
  rw [l1]
  unfold wb_law_both_8; walk_at "w"
  rw [k1]
  have hN : ((s : Int) * (u : Int)) = ((s * u : Nat) : Int) := by simp
  refine ⟨.inl ⟨by omega, by omega⟩, ⟨by omega, by omega⟩, ?_⟩
  rw [hN, Int.toNat_natCast]
  refine loop_inv (fun i ρ n' => n' = n ∧ ∃ (mw : List (List Int)) (tw : List Int) (x2 x6 x7 x8 x9 x10 : SV), ρ = [.val (.tup [.tup (mvD mv), .tup (tlD tl)]), .val (.tup [.tup (mvD mv'), .tup (tlD tl')]), x2, .val (.int (u : Nat)), .own (mvD mw), .own (tlD tw), x6, x7, x8, x9, x10] ∧ mw.length = i ∧ tw.length = i ∧
      (∀ r ∈ mw, r.length = m ∧ ∀ x ∈ r, 0 ≤ x ∧ x < ((s * u : Nat) : Int)) ∧ ∀ x ∈ tw, 0 ≤ x ∧ x ≤ 10 * t + v) ?_ ⟨rfl, [], [], .un, .un, .un, .un, .un, .un, rfl, rfl, rfl, by simp, by simp⟩ ?_
  · rintro i d ρ n' hd ⟨rfl, mw, tw, x2, x6, x7, x8, x9, x10, rfl, e1, e2, e3, e4⟩ NX hNX
    obtain ⟨hi, rfl⟩ := rgD_get hd
    have hleft : i / u < s := Nat.div_lt_of_lt_mul (by rw [Nat.mul_comm]; exact hi)
    have hright : i % u < u := Nat.mod_lt _ h2
    unfold wb_law_both_6; walk_at "w"
    simp only [Int.zero_add]
    rw [fdivN, fmodN]
    refine ⟨⟨by omega, by omega⟩, by omega, _, _, ⟨rfl, rfl⟩, ?_⟩
    unfold wb_law_both_5; walk_at "w"
    refine ⟨Nat.zero_le _, ?_⟩
    unfold wb_law_both_4; walk_at "w"
    have hl' : i / u < mv.length := by omega
    have hr' : i % u < mv'.length := by omega
    refine ⟨_, mv_at hl', _, mv_at hr', _, _, ⟨rfl, rfl⟩, .inl ⟨_, rfl, _, rfl, ?_⟩⟩
    have hml : (mv[i / u]).length = m := (k3 _ (List.getElem_mem hl')).1
    have hmr : (mv'[i % u]).length = m := (l3 _ (List.getElem_mem hr')).1
    refine loop_inv (fun j ρ n2 => n2 = n' ∧ ∃ (g : List Int) (y9 y10 : SV), ρ = [.val (.tup [.tup (mvD mv), .tup (tlD tl)]), .val (.tup [.tup (mvD mv'), .tup (tlD tl')]), .val (.int (i : Nat)), .val (.int (u : Nat)), .own (mvD mw), .own (tlD tw), .own (g.map .int), .val (.int (i / u : Nat)), .val (.int (i % u : Nat)), y9, y10] ∧ g.length = j ∧ ∀ x ∈ g, 0 ≤ x ∧ x < ((s * u : Nat) : Int))
      ?_ ⟨rfl, [], _, _, rfl, rfl, by simp⟩ ?_
    · rintro j d ρ n2 hd ⟨rfl, g, y9, y10, rfl, f1, f2⟩ NX2 hNX2
      obtain ⟨x0, y0, hx0, hy0, rfl⟩ := zipD_get hd
      obtain ⟨x, hx, e5⟩ := map_get hx0
      obtain ⟨y, hy, e6⟩ := map_get hy0
      subst e5 e6
      have hxm := (k3 _ (List.getElem_mem hl')).2 x (int_mem hx)
      have hym := (l3 _ (List.getElem_mem hr')).2 y (int_mem hy)
      obtain ⟨x, rfl⟩ : ∃ j : Nat, x = j := ⟨x.toNat, by omega⟩
      have hmul := mulle (a := x) (b := s) (c := u) (by omega)
      have hjm : j < m := by
        have := (List.getElem?_eq_some_iff.mp hx).1
        omega
      have hpos : (0 : Int) ≤ (x : Int) * (u : Int) := Int.mul_nonneg (by omega) (by omega)
      walk_at "w"
      unfold wb_law_both_1; walk_at "w"
      refine ⟨.inl ⟨by omega, by omega⟩, szl (by rw [List.length_map]; omega), hNX2 _ _ ⟨rfl, g ++ [(x : Int) * (u : Int) + y], .val (.int (x : Nat)), .val (.int y), ?_, by simp [f1], ?_⟩⟩
      · rw [List.map_append]; rfl
      · intro z hz
        rcases List.mem_append.mp hz with hz | hz
        · exact f2 z hz
        · simp at hz; subst hz
          rw [← hN]; omega
    · rintro ρ n2 ⟨rfl, g, y9, y10, rfl, f1, f2⟩
      rw [zip_len, List.length_map, List.length_map, hml, hmr, Nat.min_self] at f1
      unfold wb_law_both_3; walk_at "w"
      refine ⟨szl (by omega), ?_⟩
      unfold wb_law_both_2; walk_at "w"
      have hl2 : i / u < tl.length := by omega
      have hr2 : i % u < tl'.length := by omega
      have q1 := k4 _ (List.getElem_mem hl2)
      have q2 := l4 _ (List.getElem_mem hr2)
      refine ⟨_, tl_at hl2, ?_⟩
      walk_at "w"
      refine ⟨.inl ⟨by omega, by omega⟩, _, tl_at hr2, ?_⟩
      walk_at "w"
      refine ⟨szl (by omega), hNX _ _ ⟨rfl, mw ++ [g], tw ++ [10 * tl[i / u] + tl'[i % u]], .val (.int (i : Nat)), .val (.lst (g.map .int)), .val (.int (i / u : Nat)), .val (.int (i % u : Nat)), y9, y10, ?_, by simp [e1], by simp [e2], ?_, ?_⟩⟩
      · simp only [mvD, tlD, List.map_append, List.map_cons, List.map_nil, rowD]
      · intro r hrr
        rcases List.mem_append.mp hrr with hrr | hrr
        · exact e3 r hrr
        · simp at hrr; subst hrr; exact ⟨f1, f2⟩
      · intro z' hz
        rcases List.mem_append.mp hz with hz | hz
        · exact e4 z' hz
        · simp at hz; subst hz; omega
  · rintro ρ n' ⟨rfl, mw, tw, x2, x6, x7, x8, x9, x10, rfl, e1, e2, e3, e4⟩
    rw [rgD_len] at e1 e2
    unfold wb_law_both_7; walk_at "w"
    exact ⟨by decide, hr _ _ ⟨mw, tw, rfl, e1, e2, e3, e4⟩ (Nat.le_refl _) (Nat.le_refl _)⟩
end Ly

namespace Ly
open PySem PySem.Spec PyProof.Rows L2
local macro_rules | `(tactic| walk_at "w") => `(tactic| try simp only [wRet, wRetN, wAndV, wOrV, wNotV, wCB, wCons, wNil, wV, wC, wChain, wTst, wTNot, wTAnd, wTOr, wIf, wOp, wIxN, wIx, wTup, wLst, wLenN, wSeq, wSkip, wIfS, wSet, wAsg, wgTup_iff, wgCons_iff, wgNil_iff, wgN, wCall, wCall0, wPar2, wPar3, wSl, woN, woS, wNeg, wDrop, wDct, wDct1, wListR1, wFor, wiR1, wiR2, wiSeq, wiEn, wiZip, wLc, wYes, wApp, wPop, wgIx,
  gIsi_iff, gLen_iff, gTuple_iff, gList_iff, gAll_iff, gI_iff, gAbs_iff, gMM_iff, gInt_iff, gEq_int, gEq_str, gEq_emp, listOf, gAdd_int, gAdd_tup, gAdd_lst, gAdd_lstN, gAdd_Nlst, gAdd_new, gMul_int, gMul_tup, gIsN_iff, gSl_tup, gSl_lst, gSl_new, sqL, sqT, sqN, ssL, ssT, ssO, dOf_val, dOf_new, svOf_val, svOf_new, kI, kB, kT, wipeD,
  List.getElem?_cons_zero, List.getElem?_cons_succ, List.getElem?_nil, List.set_cons_zero, List.set_cons_succ, List.map_cons, List.map_nil, List.length_cons, List.length_nil, RV.val.injEq, RV.new.injEq, D.bl.injEq, D.int.injEq, D.str.injEq, D.tup.injEq, D.lst.injEq, SV.val.injEq, SV.own.injEq, Option.some.injEq, exists_eq_left', exists_eq_left, exists_and_left, exists_eq_right, true_and, and_true, Bool.not_true, Bool.not_false, Bool.false_eq_true, if_true, if_false, reduceIte, ite_self, Bool.true_xor, Bool.false_xor, Bool.not_eq_true', decide_eq_true_eq, List.cons.injEq, isNon, exists_eq, exists_eq', at0, at1, mvD_len, tlD_len, rowD_def])
theorem h_law_machine : ∀ ds n Q, ds.length = 1 → c_law_machine ds n Q → wb_law_machine { nx := fun _ n' => Q .non n', rt := Q } (startD ["bag", "sort", "found", "other", "many", "states", "top"] ds) n := by
  rintro ds n Q - ⟨a, rfl, hb, hr⟩
  show wb_law_machine _ [.val _, .un, .un, .un, .un, .un, .un] n
  unfold wb_law_machine; walk_at "w"
  refine ⟨by decide, a, _, _, rfl, rfl, by simp, by simp, by omega, ?_⟩
  intro d n1 hd a1 a2
  obtain ⟨m, rfl, m1, m2⟩ : ∃ m : Nat, d = .int m ∧ 1 ≤ m ∧ m ≤ 3 := by
    simp only [List.mem_cons, List.not_mem_nil, or_false] at hd
    rcases hd with rfl | rfl | rfl | rfl | rfl | rfl
    · exact ⟨2, rfl, by omega, by omega⟩
    · exact ⟨2, rfl, by omega, by omega⟩
    · exact ⟨2, rfl, by omega, by omega⟩
    · exact ⟨2, rfl, by omega, by omega⟩
    · exact ⟨1, rfl, by omega, by omega⟩
    · exact ⟨3, rfl, by omega, by omega⟩
  refine ⟨a, 4, rfl, by omega, by omega, by omega, ?_⟩
  rintro d n2 ⟨k, rfl, k0, k1⟩ a3 a4
  obtain ⟨k, rfl⟩ : ∃ j : Nat, k = j := ⟨k.toNat, by omega⟩
  walk_at "w"
  refine ⟨by decide, a, _, _, rfl, rfl, by simp, by simp, by omega, ?_⟩
  intro d n3 hd a5 a6
  obtain ⟨t, rfl, t1, t2⟩ : ∃ t : Int, d = .int t ∧ 0 ≤ t ∧ t ≤ 99 := by
    simp only [List.mem_cons, List.not_mem_nil, or_false] at hd
    rcases hd with rfl | rfl | rfl <;> exact ⟨_, rfl, by omega, by omega⟩
  refine ⟨_, _, _, ⟨rfl, rfl, rfl⟩, ?_⟩
  have es : (2 : Int) + (k : Int) = ((2 + k : Nat) : Int) := by omega
  rw [es]
  generalize hs : 2 + k = s
  have s1 : 2 ≤ s := by omega
  have s2 : s ≤ 5 := by omega
  clear hs es
  unfold wb_law_machine_10; walk_at "w"
  refine ⟨a, 10, rfl, by omega, by omega, by omega, ?_⟩
  rintro d n4 ⟨so, rfl, so0, so1⟩ a7 a8
  unfold wb_law_machine_9; walk_at "w"
  by_cases c1 : so < 2
  · rw [if_pos c1]
    have go : ∀ (s' : Nat) n5, 1 ≤ s' → s' ≤ 5 → n4 ≤ n5 → n5 ≤ n4 + 1 → c_law_any [.bag a, .int s', .int m, .int t] n5 Q := by
      intro s' n5 q1 q2 q3 q4
      refine ⟨a, s', m, t, rfl, q1, by omega, m1, m2, t1, t2, by omega, fun d n6 hM b1 b2 => hr _ _ ?_ (by omega) (by omega)⟩
      obtain ⟨mv, tl, e, z1, z2, z3, z4⟩ := hM
      exact ⟨m, s', m1, m2, q1, by omega, mv, tl, e, z1, z2, z3, fun x hx => by have := z4 x hx; omega⟩
    have hmin : (if (s : Int) < 3 then (s : Int) else 3) = ((min 3 s : Nat) : Int) := by split <;> omega
    by_cases c2 : (m : Int) = 3
    · rw [if_pos c2, hmin]
      exact go _ _ (by omega) (by omega) (by omega) (by omega)
    · rw [if_neg c2]
      refine ⟨a, 3, rfl, by omega, by omega, by omega, ?_⟩
      rintro d n5 ⟨k2, rfl, k20, k21⟩ b1 b2
      walk_at "w"
      by_cases c3 : k2 = 0
      · rw [if_pos c3, hmin]
        exact go _ _ (by omega) (by omega) (by omega) (by omega)
      · rw [if_neg c3]
        exact go _ _ (by omega) (by omega) (by omega) (by omega)
  · rw [if_neg c1]
    unfold wb_law_machine_8; walk_at "w"
    by_cases c2 : so < 5
    · rw [if_pos c2]
      refine ⟨a, s, m, t, rfl, by omega, by omega, m1, m2, t1, t2, by omega, fun d n6 hM b1 b2 => hr _ _ ?_ (by omega) (by omega)⟩
      obtain ⟨mv, tl, e, z1, z2, z3, z4⟩ := hM
      exact ⟨m, s, m1, m2, by omega, by omega, mv, tl, e, z1, z2, z3, fun x hx => by have := z4 x hx; omega⟩
    · rw [if_neg c2]
      unfold wb_law_machine_7; walk_at "w"
      refine ⟨rfl, a, _, _, rfl, rfl, by decide, by decide, by omega, ?_⟩
      intro d n5 hd b1 b2
      obtain ⟨x, rfl⟩ : ∃ x, d = .str x := by
        simp only [List.mem_map] at hd
        obtain ⟨x, _, e⟩ := hd
        exact ⟨x, e.symm⟩
      refine ⟨x, m, rfl, m1, m2, by omega, ?_⟩
      rintro d n6 ⟨sf, sf1, sf2, hF, _⟩ b3 b4
      unfold wb_law_machine_6; walk_at "w"
      by_cases c3 : so = 5
      · rw [if_pos c3]
        refine hr _ _ ?_ (by omega) (by omega)
        obtain ⟨mv, tl, e, z1, z2, z3, z4⟩ := hF
        exact ⟨m, sf, m1, m2, sf1, by omega, mv, tl, e, z1, z2, z3, fun x hx => by have := z4 x hx; omega⟩
      · rw [if_neg c3]
        unfold wb_law_machine_5; walk_at "w"
        by_cases c4 : so = 6
        · rw [if_pos c4]
          exact ⟨a, d, sf, m, 3, rfl, sf1, by omega, m1, m2, by omega, hF, by omega, fun d' n7 hM e1 e2 => hr _ _ ⟨m, sf, m1, m2, sf1, by omega, hM⟩ (by omega) (by omega)⟩
        · rw [if_neg c4]
          unfold wb_law_machine_4; walk_at "w"
          refine ⟨by decide, a, _, _, rfl, rfl, by simp, by simp, by omega, ?_⟩
          intro d2 n7 hd2 e1 e2
          obtain ⟨x2, rfl, hx2⟩ : ∃ x2, d2 = .str x2 ∧ x2 ∈ smallNames := by
            simp only [List.mem_cons, List.not_mem_nil, or_false] at hd2
            rcases hd2 with rfl | rfl | rfl | rfl <;> exact ⟨_, rfl, by simp [smallNames]⟩
          refine ⟨x2, m, rfl, m1, m2, by omega, ?_⟩
          rintro o n8 ⟨so2, so21, so22, hO3, hO1⟩ e3 e4
          have hO := hO1 hx2
          obtain ⟨mv, tl, rfl, z1, z2, z3, z4⟩ := id hF
          obtain ⟨mw, tw, rfl, y1, y2, y3, y4⟩ := id hO
          have both : c_law_both [.tup [.tup (mvD mv), .tup (tlD tl)], .tup [.tup (mvD mw), .tup (tlD tw)]] n8 Q := by
            have : sf * so2 ≤ 4 * 4 := Nat.mul_le_mul sf2 so22
            refine ⟨_, _, sf, so2, m, 3, 1, rfl, sf1, so21, by omega, m1, m2, by omega, by omega, by omega, by omega, hF, hO, by omega, fun d n9 hM g1 g2 => hr _ _ ?_ (by omega) (by omega)⟩
            obtain ⟨mv, tl, e, z1, z2, z3, z4⟩ := hM
            exact ⟨m, sf * so2, m1, m2, Nat.mul_pos sf1 so21, by omega, mv, tl, e, z1, z2, z3, fun x hx => by have := z4 x hx; omega⟩
          unfold wb_law_machine_3; walk_at "w"
          by_cases c5 : so = 7
          · rw [if_pos c5]; exact both
          · rw [if_neg c5]
            unfold wb_law_machine_2; walk_at "w"
            by_cases c6 : so = 8
            · rw [if_pos c6]
              subst c6
              walk_at "w"
              rw [z1, y1]
              refine ⟨.inl ⟨by omega, by omega⟩, ?_⟩
              by_cases c7 : (12 : Int) < (sf : Int) * (so2 : Int)
              · rw [if_pos c7]; exact both
              · rw [if_neg c7]
                have hp : sf * so2 ≤ 12 := by
                  have : (sf : Int) * (so2 : Int) = ((sf * so2 : Nat) : Int) := by simp
                  omega
                have hF' : Mach m sf 99 (.tup [.tup (mvD mv), .tup (tlD tl)]) := ⟨mv, tl, rfl, z1, z2, z3, fun x hx => by have := z4 x hx; omega⟩
                have hO' : Mach m so2 99 (.tup [.tup (mvD mw), .tup (tlD tw)]) := ⟨mw, tw, rfl, y1, y2, y3, fun x hx => by have := y4 x hx; omega⟩
                exact ⟨_, _, sf, so2, m, 99, rfl, sf1, so21, by rw [Nat.mul_assoc]; omega, m1, m2, hF', hO', by omega, fun d n9 hM g1 g2 => hr _ _ ⟨m, 2 * sf * so2, m1, m2, by rw [Nat.mul_assoc]; have := Nat.mul_pos sf1 so21; omega, by rw [Nat.mul_assoc]; omega, hM⟩ (by omega) (by omega)⟩
            · rw [if_neg c6, if_neg c6]
              unfold wb_law_machine_1; walk_at "w"
              refine ⟨a, 3, rfl, by omega, by omega, by omega, ?_⟩
              rintro d n9 ⟨k3, rfl, k30, k31⟩ g1 g2
              obtain ⟨k3, rfl⟩ : ∃ j : Nat, k3 = j := ⟨k3.toNat, by omega⟩
              walk_at "w"
              rw [show ((1 : Int) + (k3 : Int)) = ((1 + k3 : Nat) : Int) by omega]
              refine ⟨a, 1 + k3, m, 1, rfl, by omega, by omega, m1, m2, by omega, by omega, by omega, ?_⟩
              intro dA n10 hA g3 g4
              refine ⟨a, _, so2, m, 1, rfl, so21, by omega, m1, m2, by omega, hO, by omega, ?_⟩
              intro dB n11 hB g5 g6
              have hp : (1 + k3) * so2 ≤ 3 * 4 := Nat.mul_le_mul (by omega) so22
              obtain ⟨mv', tl', e', z1', z2', z3', z4'⟩ := hA
              have hA' : Mach m (1 + k3) 99 dA := ⟨mv', tl', e', z1', z2', z3', fun x hx => by have := z4' x hx; omega⟩
              exact ⟨_, _, 1 + k3, so2, m, 99, rfl, by omega, so21, by rw [Nat.mul_assoc]; omega, m1, m2, hA', hB, by omega, fun d n12 hM g7 g8 => hr _ _ ⟨m, 2 * (1 + k3) * so2, m1, m2, by rw [Nat.mul_assoc]; have := Nat.mul_pos (show 0 < 1 + k3 by omega) so21; omega, by rw [Nat.mul_assoc]; omega, hM⟩ (by omega) (by omega)⟩
end Ly

namespace Ly
open PySem PySem.Spec PyProof.Rows L2
local macro_rules | `(tactic| walk_at "w") => `(tactic| try simp only [wRet, wRetN, wAndV, wOrV, wNotV, wCB, wCons, wNil, wV, wC, wChain, wTst, wTNot, wTAnd, wTOr, wIf, wOp, wIxN, wIx, wTup, wLst, wLenN, wSeq, wSkip, wIfS, wSet, wAsg, wgTup_iff, wgCons_iff, wgNil_iff, wgN, wCall, wCall0, wPar2, wPar3, wSl, woN, woS, wNeg, wDrop, wDct, wDct1, wListR1, wFor, wiR1, wiR2, wiSeq, wiEn, wiZip, wLc, wYes, wApp, wPop, wgIx,
  gIsi_iff, gLen_iff, gTuple_iff, gList_iff, gAll_iff, gI_iff, gAbs_iff, gMM_iff, gInt_iff, gEq_int, gEq_str, gEq_emp, listOf, gAdd_int, gAdd_tup, gAdd_lst, gAdd_lstN, gAdd_Nlst, gAdd_new, gMul_int, gMul_tup, gIsN_iff, gSl_tup, gSl_lst, gSl_new, sqL, sqT, sqN, ssL, ssT, ssO, dOf_val, dOf_new, svOf_val, svOf_new, kI, kB, kT, wipeD,
  List.getElem?_cons_zero, List.getElem?_cons_succ, List.getElem?_nil, List.set_cons_zero, List.set_cons_succ, List.map_cons, List.map_nil, List.length_cons, List.length_nil, RV.val.injEq, RV.new.injEq, D.bl.injEq, D.int.injEq, D.str.injEq, D.tup.injEq, D.lst.injEq, SV.val.injEq, SV.own.injEq, Option.some.injEq, exists_eq_left', exists_eq_left, exists_and_left, exists_eq_right, true_and, and_true, Bool.not_true, Bool.not_false, Bool.false_eq_true, if_true, if_false, reduceIte, ite_self, Bool.true_xor, Bool.false_xor, Bool.not_eq_true', decide_eq_true_eq, List.cons.injEq, isNon, exists_eq, exists_eq', at0, at1, mvD_len, tlD_len, rowD_def])
theorem mem_erase {l : List Int} {j : Nat} {x y : Int} (h : x ∈ l) (hj : l[j]? = some y) : x ∈ l.eraseIdx j ∨ x = y := by
  induction l generalizing j with
  | nil => simp at h
  | cons a l ih =>
    cases j with
    | zero =>
      simp at hj
      subst hj
      rcases List.mem_cons.mp h with h | h
      · exact .inr h
      · exact .inl h
    | succ j =>
      simp at hj
      rw [List.eraseIdx_cons_succ]
      rcases List.mem_cons.mp h with h | h
      · exact .inl (by rw [h]; exact List.mem_cons_self)
      · rcases ih h hj with h | h
        · exact .inl (List.mem_cons_of_mem _ h)
        · exact .inr h
theorem map_erase {l : List Int} {j : Nat} : (l.map D.int).eraseIdx j = (l.eraseIdx j).map .int := by
  induction l generalizing j with
  | nil => rfl
  | cons a l ih => cases j with
    | zero => rfl
    | succ j => rw [List.map_cons, List.eraseIdx_cons_succ, ih, List.eraseIdx_cons_succ, List.map_cons]
def homD (h : List (List Int)) : List D := h.map fun r => .lst (r.map .int)
theorem homD_len {h : List (List Int)} : (homD h).length = h.length := List.length_map ..
theorem hom_at {h : List (List Int)} {k : Nat} (hk : k < h.length) : atI (homD h) (k : Int) = some (.lst (h[k].map .int)) := by
  have : (homD h)[k]? = some (.lst (h[k].map .int)) := by unfold homD; rw [List.getElem?_map, List.getElem?_eq_getElem hk]; rfl
  exact atI_nat this
theorem rg_ints (s : Nat) : rgD 0 s = ((List.range s).map fun i => ((i : Nat) : Int)).map D.int := by
  unfold rgD
  rw [List.map_map]
  congr 1
  funext i
  simp
theorem allx {α : Type} {f : α → D} : ∀ {l : List D} {P : Nat → α → Prop}, (∀ (i : Nat) d, l[i]? = some d → ∃ k, d = f k ∧ P i k) → ∃ r : List α, l = r.map f ∧ ∀ (i : Nat) x, r[i]? = some x → P i x
  | [], _, _ => ⟨[], rfl, fun i x h => by simp at h⟩
  | d :: l, P, h => by
    obtain ⟨r, e, hr⟩ := allx (P := fun i => P (i + 1)) fun i d' hd => h (i + 1) d' (by simpa using hd)
    obtain ⟨k, e', hk⟩ := h 0 d rfl
    refine ⟨k :: r, by rw [List.map_cons, ← e, e'], fun i x hx => ?_⟩
    cases i with
    | zero => simp at hx; subst hx; exact hk
    | succ i => exact hr i x (by simpa using hx)
theorem h_law_split : ∀ ds n Q, ds.length = 3 → c_law_split ds n Q → wb_law_split { nx := fun _ n' => Q .non n', rt := Q } (startD ["bag", "machine", "states", "turn", "left", "own", "state", "rows", "moves", "tells", "homes", "place", "goal"] ds) n := by
  rintro ds n Q - ⟨a, d, s, m, u, t, rfl, h1, h2, h3, h4, h5, ⟨mv, tl, rfl, k1, k2, k3, k4⟩, hb, hr⟩
  show wb_law_split _ [.val _, .val _, .val _, .un, .un, .un, .un, .un, .un, .un, .un, .un, .un] n
  unfold wb_law_split; walk_at "w"
  unfold wb_law_split_11; walk_at "w"
  rw [k1]
  refine ⟨s, rfl, by omega, Nat.zero_le _, _, _, ⟨rfl, rfl⟩, ?_⟩
  unfold wb_law_split_10; walk_at "w"
  rw [k1]
  refine ⟨⟨by omega, by omega⟩, ?_⟩
  rw [rg_ints s]
  refine loop_inv (fun i ρ n' => ∃ (o : List Int) (x3 : SV), ρ = [.val (.bag a), .val (.tup [.tup (mvD mv), .tup (tlD tl)]), .val (.int (u : Nat)), x3, .un, .own (o.map .int), .un, .un, .val (.tup (mvD mv)), .val (.tup (tlD tl)), .own [], .un, .un] ∧
      o.length = s + i ∧ o[0]? = some 0 ∧ (∀ k : Nat, k < s → ((k : Nat) : Int) ∈ o) ∧ (∀ x ∈ o, 0 ≤ x ∧ x < (s : Int)) ∧ n ≤ n' ∧ n' ≤ n + i) ?_
    ⟨_, .un, rfl, by simp, ?_, fun k hk => List.mem_map.mpr ⟨k, List.mem_range.mpr hk, rfl⟩, fun x hx => ?_, Nat.le_refl _, Nat.le_refl _⟩ ?_
  · rintro i d ρ n' hd ⟨o, x3, rfl, e1, e2, e3, e4, b1, b2⟩ NX hNX
    obtain ⟨hi, rfl⟩ := rgD_get hd
    walk_at "w"
    unfold wb_law_split_1; walk_at "w"
    refine ⟨a, s, by rw [k1], by omega, by omega, by omega, ?_⟩
    rintro d n2 ⟨k, rfl, q0, q1⟩ f1 f2
    walk_at "w"
    refine ⟨szl (by rw [List.length_map]; omega), hNX _ _ ⟨o ++ [k], .val (.int (0 + (i : Nat))), by rw [List.map_append]; rfl, by simp; omega, by rw [List.getElem?_append_left (by omega)]; exact e2, fun j hj => List.mem_append_left _ (e3 j hj), fun x hx => ?_, by omega, by omega⟩⟩
    rcases List.mem_append.mp hx with hx | hx
    · exact e4 x hx
    · simp at hx; subst hx; exact ⟨q0, q1⟩
  · rw [List.getElem?_map, List.getElem?_range (by omega)]; rfl
  · simp only [List.mem_map, List.mem_range] at hx
    obtain ⟨k, hk, rfl⟩ := hx
    omega
  · rintro ρ n' ⟨o, x3, rfl, e1, e2, e3, e4, b1, b2⟩
    rw [rgD_len, show ((u : Int) - (s : Int)).toNat = u - s by omega] at e1 b2
    have hol : o.length = u := by omega
    unfold wb_law_split_9; walk_at "w"
    rw [show (1 : Int) = ((1 : Nat) : Int) from rfl, cut_from, ← List.map_drop]
    unfold wb_law_split_8; walk_at "w"
    refine ⟨by decide, ?_⟩
    unfold wb_law_split_7; walk_at "w"
    rw [List.length_map, List.length_drop, hol]
    refine ⟨⟨by omega, by omega⟩, ?_⟩
    rw [Int.toNat_natCast]
    refine loop_inv (fun i ρ n2 => ∃ (w l : List Int) (x3 : SV), ρ = [.val (.bag a), .val (.tup [.tup (mvD mv), .tup (tlD tl)]), .val (.int (u : Nat)), x3, .own (l.map .int), .own (w.map .int), .un, .un, .val (.tup (mvD mv)), .val (.tup (tlD tl)), .own [], .un, .un] ∧
        w.length = 1 + i ∧ w[0]? = some 0 ∧ l.length = u - 1 - i ∧ (∀ k : Nat, k < s → ((k : Nat) : Int) ∈ w ∨ ((k : Nat) : Int) ∈ l) ∧ (∀ x ∈ w, 0 ≤ x ∧ x < (s : Int)) ∧ (∀ x ∈ l, 0 ≤ x ∧ x < (s : Int)) ∧ n ≤ n2 ∧ n2 ≤ n + 24 + i) ?_
      ⟨[0], o.drop 1, x3, rfl, rfl, rfl, by rw [List.length_drop]; omega, fun k hk => ?_, by simp; omega, fun x hx => e4 x (List.mem_of_mem_drop hx), b1, by omega⟩ ?_
    · rintro i d ρ n2 hd ⟨w, l, x3, rfl, g1, g0, g2, g3, g4, g5, b3, b4⟩ NX hNX
      obtain ⟨hi, rfl⟩ := rgD_get hd
      walk_at "w"
      unfold wb_law_split_2; walk_at "w"
      refine ⟨a, l.length, by rw [List.length_map], by omega, by omega, by omega, ?_⟩
      rintro d n3 ⟨k, rfl, q0, q1⟩ f1 f2
      obtain ⟨k, rfl⟩ : ∃ j : Nat, k = j := ⟨k.toNat, by omega⟩
      have hk : k < l.length := by omega
      have hlk : (l.map D.int)[k]? = some (.int l[k]) := by rw [List.getElem?_map, List.getElem?_eq_getElem hk]; rfl
      refine ⟨k, rfl, by omega, _, hlk, ?_⟩
      walk_at "w"
      rw [map_erase]
      refine ⟨szl (by rw [List.length_map]; omega), hNX _ _ ⟨w ++ [l[k]], l.eraseIdx k, .val (.int (0 + (i : Nat))), by rw [List.map_append]; rfl, by simp; omega, by rw [List.getElem?_append_left (by omega)]; exact g0, by rw [List.length_eraseIdx_of_lt hk]; omega, fun j hj => ?_, fun x hx => ?_, fun x hx => g5 x (List.mem_of_mem_eraseIdx hx), by omega, by omega⟩⟩
      · rcases g3 j hj with h | h
        · exact .inl (List.mem_append_left _ h)
        · rcases mem_erase h (List.getElem?_eq_getElem hk) with h | h
          · exact .inr h
          · exact .inl (List.mem_append_right _ (by rw [h]; simp))
      · rcases List.mem_append.mp hx with hx | hx
        · exact g4 x hx
        · simp at hx; subst hx; exact g5 _ (List.getElem_mem hk)
    · have := e3 k hk
      cases o with
      | nil => simp at e2
      | cons z o =>
        simp at e2
        subst e2
        rcases List.mem_cons.mp this with h | h
        · exact .inl (by rw [h]; simp)
        · exact .inr h
    · rintro ρ n2 ⟨w, l, x3', rfl, g1, g0, g2, g3, g4, g5, b3, b4⟩
      rw [rgD_len] at g1 g2 b4
      have hl0 : l = [] := List.eq_nil_of_length_eq_zero (by omega)
      subst hl0
      have hwl : w.length = u := by omega
      have hall : ∀ k : Nat, k < s → ((k : Nat) : Int) ∈ w := fun k hk => by
        rcases g3 k hk with h | h
        · exact h
        · simp at h
      unfold wb_law_split_6; walk_at "w"
      rw [k1]
      refine ⟨⟨by omega, by omega⟩, ?_⟩
      rw [Int.toNat_natCast]
      refine loop_inv (fun i ρ n3 => n3 = n2 ∧ ∃ (h : List (List Int)) (x6 : SV), ρ = [.val (.bag a), .val (.tup [.tup (mvD mv), .tup (tlD tl)]), .val (.int (u : Nat)), x3', .own [], .own (w.map .int), x6, .un, .val (.tup (mvD mv)), .val (.tup (tlD tl)), .own (homD h), .un, .un] ∧
          h.length = i ∧ ∀ (st : Nat) r, h[st]? = some r → r ≠ [] ∧ r.length ≤ 24 ∧ ∀ x ∈ r, ∃ p : Nat, x = (p : Int) ∧ p < u ∧ w[p]? = some (st : Int)) ?_ ⟨rfl, [], .un, rfl, rfl, fun st r hr => by simp at hr⟩ ?_
      · rintro i d ρ n3 hd ⟨rfl, h, x6, rfl, c1, c2⟩ NX hNX
        obtain ⟨hi, rfl⟩ := rgD_get hd
        walk_at "w"
        unfold wb_law_split_3; walk_at "w"
        rw [List.length_map, hwl]
        refine ⟨⟨by omega, by omega⟩, ?_⟩
        rw [Int.toNat_natCast]
        refine comp_inv (fun j acc ρ n4 => n4 = n3 ∧ ρ = [.val (.bag a), .val (.tup [.tup (mvD mv), .tup (tlD tl)]), .val (.int (u : Nat)), x3', .own [], .own (w.map .int), .val (.int (0 + (i : Nat))), .un, .val (.tup (mvD mv)), .val (.tup (tlD tl)), .own (homD h), .un, .un] ∧
            ∃ r : List Int, acc = r.map .int ∧ r.length ≤ j ∧ (∀ x ∈ r, ∃ p : Nat, x = (p : Int) ∧ p < u ∧ w[p]? = some (i : Int)) ∧ ∀ p : Nat, p < j → w[p]? = some ((i : Nat) : Int) → r ≠ []) ?_ ⟨rfl, rfl, [], rfl, Nat.zero_le _, by simp, fun p hp => by omega⟩ ?_
        · rintro j d acc ρ n4 hd ⟨rfl, rfl, r, rfl, d1, d2, d3⟩ K hK
          obtain ⟨hj, rfl⟩ := rgD_get hd
          have hjw : j < w.length := by omega
          walk_at "w"
          simp only [Int.zero_add]
          refine ⟨_, int_at hjw, ?_⟩
          walk_at "w"
          by_cases hw : w[j] = ((i : Nat) : Int)
          · rw [if_pos hw]
            refine ⟨szl (by rw [List.length_map]; omega), hK _ _ _ ⟨rfl, by simp only [Int.zero_add], r ++ [((j : Nat) : Int)], by rw [List.map_append]; rfl, by simp; omega, fun x hx => ?_, fun p _ _ => by simp⟩⟩
            rcases List.mem_append.mp hx with hx | hx
            · exact d2 x hx
            · simp at hx; subst hx; exact ⟨j, rfl, by omega, by rw [List.getElem?_eq_getElem hjw, hw]⟩
          · rw [if_neg hw]
            refine hK _ _ _ ⟨rfl, by simp only [Int.zero_add], r, rfl, by omega, d2, fun p hp hwp => ?_⟩
            by_cases hpj : p = j
            · subst hpj
              rw [List.getElem?_eq_getElem hjw] at hwp
              exact absurd (Option.some.inj hwp) hw
            · exact d3 p (by omega) hwp
        · rintro acc ρ n4 ⟨rfl, rfl, r, rfl, d1, d2, d3⟩
          rw [rgD_len] at d1 d3
          walk_at "w"
          obtain ⟨p, hp⟩ := List.getElem?_of_mem (hall i hi)
          have hpl := (List.getElem?_eq_some_iff.mp hp).1
          refine ⟨szl (by rw [homD_len]; omega), hNX _ _ ⟨rfl, h ++ [r], .val (.int (0 + (i : Nat))), by simp [homD], by simp [c1], fun st q hq => ?_⟩⟩
          by_cases hst : st < h.length
          · rw [List.getElem?_append_left hst] at hq; exact c2 st q hq
          · rw [List.getElem?_append_right (by omega)] at hq
            cases hk : st - h.length with
            | zero =>
              rw [hk] at hq
              have : st = i := by omega
              subst this
              simp at hq; subst hq; exact ⟨d3 p (by omega) hp, by omega, d2⟩
            | succ k => rw [hk] at hq; simp at hq
      · rintro ρ n3 ⟨rfl, h, x6, rfl, c1, c2⟩
        rw [rgD_len] at c1
        unfold wb_law_split_5; walk_at "w"
        refine comp_map (fun i d => ∃ r : List Int, d = rowD r ∧ r.length = m ∧ ∃ (j : Nat) (r0 : List Int), w[i]? = some (j : Int) ∧ mv[j]? = some r0 ∧ ∀ (c : Nat) x, r[c]? = some x → ∃ (g : Int) (q : Nat), r0[c]? = some g ∧ x = (q : Int) ∧ q < u ∧ w[q]? = some g) 3 ?_ (by rw [List.length_map]; omega) ?_
        · intro i d n4 hd b5 b6 K hK
          obtain ⟨z, hz, rfl⟩ := map_get hd
          have hzr := g4 z (int_mem hz)
          obtain ⟨z, rfl⟩ : ∃ j : Nat, z = j := ⟨z.toNat, by omega⟩
          have hzm : z < mv.length := by omega
          have hiw : i < w.length := (List.getElem?_eq_some_iff.mp hz).1
          walk_at "w"
          refine ⟨_, mv_at hzm, ?_⟩
          walk_at "w"
          have hml : (mv[z]).length = m := (k3 _ (List.getElem_mem hzm)).1
          refine comp_map (fun c d => ∃ k : Int, d = .int k ∧ ∃ (g : Int) (q : Nat), (mv[z])[c]? = some g ∧ k = (q : Int) ∧ q < u ∧ w[q]? = some g) 1 ?_ (by rw [List.length_map]; omega) ?_
          · intro j d n5 hd b7 b8 K2 hK2
            obtain ⟨g, hg, rfl⟩ := map_get hd
            have hgr := (k3 _ (List.getElem_mem hzm)).2 g (int_mem hg)
            obtain ⟨g, rfl⟩ : ∃ j : Nat, g = j := ⟨g.toNat, by omega⟩
            have hjl : j < (mv[z]).length := (List.getElem?_eq_some_iff.mp hg).1
            have hgh : g < h.length := by omega
            walk_at "w"
            refine ⟨_, hom_at hgh, ?_⟩
            obtain ⟨r0, r1, r2⟩ := c2 g _ (List.getElem?_eq_getElem hgh)
            refine ⟨a, _, _, rfl, rfl, ?_, by rw [List.length_map]; omega, by omega, ?_⟩
            · rw [List.length_map]; exact List.length_pos_iff.mpr r0
            · intro d n6 hd b9 b10
              obtain ⟨y, hy, rfl⟩ := List.mem_map.mp hd
              obtain ⟨q, y1, y2, y3⟩ := r2 y hy
              exact hK2 _ _ _ ⟨y, rfl, _, q, hg, y1, y2, y3⟩ rfl b9 b10
          · intro l n5 hl hP b7 b8
            rw [List.length_map, hml] at hl b8
            obtain ⟨r, rfl, hr'⟩ := allx hP
            rw [List.length_map] at hl
            exact hK _ _ _ ⟨r, rfl, hl, z, mv[z], hz, List.getElem?_eq_getElem hzm, hr'⟩ rfl b7 (by omega)
        · intro l n4 hl hP b5 b6
          rw [List.length_map, hwl] at hl b6
          obtain ⟨mw, rfl, hmw⟩ := allx hP
          rw [List.length_map] at hl
          unfold wb_law_split_4; walk_at "w"
          refine comp_map (fun i d => ∃ k : Int, d = .int k ∧ (0 ≤ k ∧ k ≤ t) ∧ ∃ j : Nat, w[i]? = some (j : Int) ∧ tl[j]? = some k) 0 ?_ (by rw [List.length_map]; omega) ?_
          · intro i d n5 hd b7 b8 K hK
            obtain ⟨z, hz, rfl⟩ := map_get hd
            have hzr := g4 z (int_mem hz)
            obtain ⟨z, rfl⟩ : ∃ j : Nat, z = j := ⟨z.toNat, by omega⟩
            have hzm : z < tl.length := by omega
            walk_at "w"
            exact ⟨_, tl_at hzm, hK _ _ _ ⟨_, rfl, k4 _ (List.getElem_mem hzm), z, hz, List.getElem?_eq_getElem hzm⟩ rfl (Nat.le_refl _) (Nat.le_refl _)⟩
          · intro l n5 hl2 hP2 b7 b8
            rw [List.length_map, hwl] at hl2
            obtain ⟨tw, rfl, htw⟩ := allx hP2
            rw [List.length_map] at hl2
            refine ⟨by decide, hr _ _ ⟨⟨mw, tw, rfl, hl, hl2, fun r hr => ?_, fun x hx => ?_⟩, mv, tl, mw, tw, w, rfl, rfl, hwl, g0, fun p hp => ?_⟩ (by omega) (by omega)⟩
            · obtain ⟨i, hi, e⟩ := List.getElem_of_mem hr
              obtain ⟨y1, j, r0, y2, y3, y4⟩ := hmw i r (by rw [List.getElem?_eq_getElem hi, e])
              refine ⟨y1, fun x hx => ?_⟩
              obtain ⟨c, hc, ec⟩ := List.getElem_of_mem hx
              obtain ⟨g, q, z1, z2, z3, z4⟩ := y4 c x (by rw [List.getElem?_eq_getElem hc, ec])
              omega
            · obtain ⟨i, hi, e⟩ := List.getElem_of_mem hx
              exact (htw i x (by rw [List.getElem?_eq_getElem hi, e])).1
            · obtain ⟨y1, j, r0, y2, y3, y4⟩ := hmw p mw[p] (List.getElem?_eq_getElem (by omega))
              obtain ⟨_, j', w1, w2⟩ := htw p tw[p] (List.getElem?_eq_getElem (by omega))
              rw [y2] at w1
              have ej : j' = j := by have := Option.some.inj w1; omega
              subst ej
              refine ⟨j', y2, (List.getElem?_eq_some_iff.mp y3).1, by rw [w2, List.getElem?_eq_getElem (by omega)], r0, mw[p], y3, List.getElem?_eq_getElem (by omega), fun c hc => ?_⟩
              obtain ⟨g, q, z1, z2, z3, z4⟩ := y4 c (mw[p])[c] (List.getElem?_eq_getElem (by omega))
              exact ⟨g, q, z1, by rw [List.getElem?_eq_getElem (by omega), z2], z4⟩
end Ly

namespace Ly
open PySem PySem.Spec PyProof.Rows L2
local macro_rules | `(tactic| walk_at "w") => `(tactic| try simp only [wRet, wRetN, wAndV, wOrV, wNotV, wCB, wCons, wNil, wV, wC, wChain, wTst, wTNot, wTAnd, wTOr, wIf, wOp, wIxN, wIx, wTup, wLst, wLenN, wSeq, wSkip, wIfS, wSet, wAsg, wgTup_iff, wgCons_iff, wgNil_iff, wgN, wCall, wCall0, wPar2, wPar3, wSl, woN, woS, wNeg, wDrop, wDct, wDct1, wListR1, wFor, wiR1, wiR2, wiSeq, wiEn, wiZip, wLc, wYes, wApp, wPop, wgIx,
  gIsi_iff, gLen_iff, gTuple_iff, gList_iff, gAll_iff, gI_iff, gAbs_iff, gMM_iff, gInt_iff, gEq_int, gEq_str, gEq_emp, listOf, gAdd_int, gAdd_tup, gAdd_lst, gAdd_lstN, gAdd_Nlst, gAdd_new, gMul_int, gMul_tup, gIsN_iff, gSl_tup, gSl_lst, gSl_new, sqL, sqT, sqN, ssL, ssT, ssO, dOf_val, dOf_new, svOf_val, svOf_new, kI, kB, kT, wipeD,
  List.getElem?_cons_zero, List.getElem?_cons_succ, List.getElem?_nil, List.set_cons_zero, List.set_cons_succ, List.map_cons, List.map_nil, List.length_cons, List.length_nil, RV.val.injEq, RV.new.injEq, D.bl.injEq, D.int.injEq, D.str.injEq, D.tup.injEq, D.lst.injEq, SV.val.injEq, SV.own.injEq, Option.some.injEq, exists_eq_left', exists_eq_left, exists_and_left, exists_eq_right, true_and, and_true, Bool.not_true, Bool.not_false, Bool.false_eq_true, if_true, if_false, reduceIte, ite_self, Bool.true_xor, Bool.false_xor, Bool.not_eq_true', decide_eq_true_eq, List.cons.injEq, isNon, exists_eq, exists_eq', at0, at1, mvD_len, tlD_len, rowD_def])
theorem rg4 : rgD 0 (Int.toNat 4) = [.int 0, .int 1, .int 2, .int 3] := rfl
theorem rgm1 : rgD 0 (Int.toNat ((1 : Nat) : Int)) = [.int 0] := rfl
theorem rgm2 : rgD 0 (Int.toNat ((2 : Nat) : Int)) = [.int 0, .int 1] := rfl
theorem rgm3 : rgD 0 (Int.toNat ((3 : Nat) : Int)) = [.int 0, .int 1, .int 2] := rfl
theorem of_range {l : List D} {m : Nat} {f : Nat → D} (hl : l.length = m) (h : ∀ i d, l[i]? = some d → d = f i) : l = (List.range m).map f := by
  subst hl
  apply List.ext_getElem?
  intro i
  rw [List.getElem?_map]
  by_cases hi : i < l.length
  · rw [List.getElem?_range hi, List.getElem?_eq_getElem hi]
    exact congrArg some (h i _ (List.getElem?_eq_getElem hi))
  · rw [List.getElem?_eq_none (by omega), List.getElem?_eq_none (by rw [List.length_range]; omega)]; rfl
local macro_rules | `(tactic| walk_at "side") => `(tactic| first | decide | omega | (simp; done) | (simp; omega) | (simp; decide))
theorem h_law_known : ∀ ds n Q, ds.length = 2 → c_law_known ds n Q → wb_law_known { nx := fun _ n' => Q .non n', rt := Q } (startD ["name", "many", "others", "moves", "state", "letter"] ds) n := by
  rintro ds n Q - ⟨x, m, rfl, h1, h2, hb, hr⟩
  show wb_law_known _ [.val _, .val _, .un, .un, .un, .un] n
  have fin : ∀ (s : Nat) (mv : List (List Int)) (tl : List Int) (d : D), d = .tup [.tup (mvD mv), .tup (tlD tl)] → 1 ≤ s → s ≤ 4 → mv.length = s → tl.length = s → (∀ r ∈ mv, r.length = m ∧ ∀ x ∈ r, 0 ≤ x ∧ x < (s : Int)) → (∀ y ∈ tl, 0 ≤ y ∧ y ≤ 3) → (x ∈ smallNames → ∀ y ∈ tl, y ≤ 1) → Q d n := by
    intro s mv tl d e q1 q2 q3 q4 q5 q6 q7
    exact hr _ _ ⟨s, q1, q2, ⟨mv, tl, e, q3, q4, q5, q6⟩, fun hx => ⟨mv, tl, e, q3, q4, q5, fun y hy => ⟨(q6 y hy).1, q7 hx y hy⟩⟩⟩ (Nat.le_refl _) (Nat.le_refl _)
  have hm : m = 1 ∨ m = 2 ∨ m = 3 := by omega
  clear hr
  unfold wb_law_known; walk_at "w"
  refine ⟨by decide, by simp, by omega, by omega, by decide, ?_⟩
  unfold wb_law_known_9; walk_at "w"
  by_cases c1 : x = Str.ofString "begins"
  · rw [if_pos c1]
    subst c1
    rcases hm with rfl | rfl | rfl
    · have := fin 3 [[1], [1], [2]] [0, 1, 0] _ rfl (by decide) (by decide) rfl rfl (by decide) (by decide) (by decide)
      repeat' apply And.intro
      all_goals first | exact this | walk_at "side"
    · have := fin 3 [[1, 2], [1, 1], [2, 2]] [0, 1, 0] _ rfl (by decide) (by decide) rfl rfl (by decide) (by decide) (by decide)
      repeat' apply And.intro
      all_goals first | exact this | walk_at "side"
    · have := fin 3 [[1, 2, 2], [1, 1, 1], [2, 2, 2]] [0, 1, 0] _ rfl (by decide) (by decide) rfl rfl (by decide) (by decide) (by decide)
      repeat' apply And.intro
      all_goals first | exact this | walk_at "side"
  rw [if_neg c1]
  unfold wb_law_known_8; walk_at "w"
  by_cases c2 : x = Str.ofString "count"
  · rw [if_pos c2, rg4]
    subst c2
    have nc : Str.ofString "count" ∉ smallNames := by decide
    refine ⟨⟨by omega, by omega⟩, ?_⟩
    rcases hm with rfl | rfl | rfl
    · have := fin 4 [[1], [2], [3], [3]] [0, 1, 2, 3] _ rfl (by decide) (by decide) rfl rfl (by decide) (by decide) (fun h => absurd h nc)
      simp only [compD]; walk_at "w"
      repeat' apply And.intro
      all_goals first | exact this | walk_at "side"
    · have := fin 4 [[1, 0], [2, 1], [3, 2], [3, 3]] [0, 1, 2, 3] _ rfl (by decide) (by decide) rfl rfl (by decide) (by decide) (fun h => absurd h nc)
      simp only [compD]; walk_at "w"
      repeat' apply And.intro
      all_goals first | exact this | walk_at "side"
    · have := fin 4 [[1, 0, 0], [2, 1, 1], [3, 2, 2], [3, 3, 3]] [0, 1, 2, 3] _ rfl (by decide) (by decide) rfl rfl (by decide) (by decide) (fun h => absurd h nc)
      simp only [compD]; walk_at "w"
      repeat' apply And.intro
      all_goals first | exact this | walk_at "side"
  rw [if_neg c2]
  unfold wb_law_known_7; walk_at "w"
  by_cases c3 : x = Str.ofString "ends"
  · rw [if_pos c3]
    subst c3
    rcases hm with rfl | rfl | rfl
    · have := fin 2 [[1], [1]] [0, 1] _ rfl (by decide) (by decide) rfl rfl (by decide) (by decide) (by decide)
      repeat' apply And.intro
      all_goals first | exact this | walk_at "side"
    · have := fin 2 [[1, 0], [1, 0]] [0, 1] _ rfl (by decide) (by decide) rfl rfl (by decide) (by decide) (by decide)
      repeat' apply And.intro
      all_goals first | exact this | walk_at "side"
    · have := fin 2 [[1, 0, 0], [1, 0, 0]] [0, 1] _ rfl (by decide) (by decide) rfl rfl (by decide) (by decide) (by decide)
      repeat' apply And.intro
      all_goals first | exact this | walk_at "side"
  rw [if_neg c3]
  unfold wb_law_known_6; walk_at "w"
  by_cases c4 : x = Str.ofString "holds"
  · rw [if_pos c4]
    subst c4
    rcases hm with rfl | rfl | rfl
    · have := fin 2 [[1], [1]] [0, 1] _ rfl (by decide) (by decide) rfl rfl (by decide) (by decide) (by decide)
      repeat' apply And.intro
      all_goals first | exact this | walk_at "side"
    · have := fin 2 [[1, 0], [1, 1]] [0, 1] _ rfl (by decide) (by decide) rfl rfl (by decide) (by decide) (by decide)
      repeat' apply And.intro
      all_goals first | exact this | walk_at "side"
    · have := fin 2 [[1, 0, 0], [1, 1, 1]] [0, 1] _ rfl (by decide) (by decide) rfl rfl (by decide) (by decide) (by decide)
      repeat' apply And.intro
      all_goals first | exact this | walk_at "side"
  rw [if_neg c4]
  unfold wb_law_known_5; walk_at "w"
  by_cases c5 : x = Str.ofString "length"
  · rw [if_pos c5]
    subst c5
    have nc : Str.ofString "length" ∉ smallNames := by decide
    rcases hm with rfl | rfl | rfl
    · have := fin 3 [[1], [2], [0]] [0, 1, 2] _ rfl (by decide) (by decide) rfl rfl (by decide) (by decide) (fun h => absurd h nc)
      repeat' apply And.intro
      all_goals first | exact this | walk_at "side"
    · have := fin 3 [[1, 1], [2, 2], [0, 0]] [0, 1, 2] _ rfl (by decide) (by decide) rfl rfl (by decide) (by decide) (fun h => absurd h nc)
      repeat' apply And.intro
      all_goals first | exact this | walk_at "side"
    · have := fin 3 [[1, 1, 1], [2, 2, 2], [0, 0, 0]] [0, 1, 2] _ rfl (by decide) (by decide) rfl rfl (by decide) (by decide) (fun h => absurd h nc)
      repeat' apply And.intro
      all_goals first | exact this | walk_at "side"
  rw [if_neg c5]
  unfold wb_law_known_4; walk_at "w"
  by_cases c6 : x = Str.ofString "parity"
  · rw [if_pos c6]
    subst c6
    rcases hm with rfl | rfl | rfl
    · have := fin 2 [[1], [0]] [0, 1] _ rfl (by decide) (by decide) rfl rfl (by decide) (by decide) (by decide)
      repeat' apply And.intro
      all_goals first | exact this | walk_at "side"
    · have := fin 2 [[1, 0], [0, 1]] [0, 1] _ rfl (by decide) (by decide) rfl rfl (by decide) (by decide) (by decide)
      repeat' apply And.intro
      all_goals first | exact this | walk_at "side"
    · have := fin 2 [[1, 0, 0], [0, 1, 1]] [0, 1] _ rfl (by decide) (by decide) rfl rfl (by decide) (by decide) (by decide)
      repeat' apply And.intro
      all_goals first | exact this | walk_at "side"
  rw [if_neg c6]
  unfold wb_law_known_3; walk_at "w"
  by_cases c7 : x = Str.ofString "next"
  · rw [if_pos c7]
    subst c7
    rcases hm with rfl | rfl | rfl
    · have := fin 3 [[1], [1], [2]] [0, 0, 1] _ rfl (by decide) (by decide) rfl rfl (by decide) (by decide) (by decide)
      repeat' apply And.intro
      all_goals first | exact this | walk_at "side"
    · have := fin 3 [[1, 0], [1, 2], [2, 2]] [0, 0, 1] _ rfl (by decide) (by decide) rfl rfl (by decide) (by decide) (by decide)
      repeat' apply And.intro
      all_goals first | exact this | walk_at "side"
    · have := fin 3 [[1, 0, 0], [1, 2, 0], [2, 2, 2]] [0, 0, 1] _ rfl (by decide) (by decide) rfl rfl (by decide) (by decide) (by decide)
      repeat' apply And.intro
      all_goals first | exact this | walk_at "side"
  rw [if_neg c7]
  unfold wb_law_known_2; walk_at "w"
  refine ⟨⟨by omega, by omega⟩, ?_⟩
  refine comp_map (fun i d => d = rowD ((List.range m).map fun (j : Nat) => if (j : Int) < (i : Int) then (m : Int) else (j : Int))) 0 ?_ (by rw [rgD_len]; omega) ?_
  · intro i d n2 hd a1 a2 K hK
    obtain ⟨hi, rfl⟩ := rgD_get hd
    walk_at "w"
    simp only [Int.zero_add]
    refine ⟨⟨by omega, by omega⟩, ?_⟩
    refine comp_map (fun j d => d = .int (if (j : Int) < (i : Int) then (m : Int) else (j : Int))) 0 ?_ (by rw [rgD_len]; omega) ?_
    · intro j d n3 hd b1 b2 K2 hK2
      obtain ⟨hj, rfl⟩ := rgD_get hd
      walk_at "w"
      simp only [Int.zero_add]
      by_cases hc : (j : Int) < (i : Int)
      · rw [if_pos hc]
        exact hK2 _ _ _ (by rw [if_pos hc]; rfl) rfl (Nat.le_refl _) (Nat.le_refl _)
      · rw [if_neg hc]
        exact hK2 _ _ _ (by rw [if_neg hc]; rfl) rfl (Nat.le_refl _) (Nat.le_refl _)
    · intro l n3 hl hP b1 b2
      rw [rgD_len, Int.toNat_natCast] at hl
      have e := of_range hl hP
      subst e
      refine hK _ _ _ ?_ rfl b1 (by omega)
      rw [dOf_val, rowD_def, List.map_map]; rfl
  · intro l n2 hl hP a1 a2
    rw [rgD_len, Int.toNat_natCast] at hl
    have e := of_range hl hP
    subst e
    have hn : n2 = n := by omega
    subst hn
    unfold wb_law_known_1; walk_at "w"
    rcases hm with rfl | rfl | rfl
    · have := fin 2 [[0], [1]] [1, 0] _ rfl (by decide) (by decide) rfl rfl (by decide) (by decide) (by intro _; decide)
      repeat' apply And.intro
      all_goals first | exact this | walk_at "side"
    · have := fin 3 [[0, 1], [2, 1], [2, 2]] [1, 1, 0] _ rfl (by decide) (by decide) rfl rfl (by decide) (by decide) (by intro _; decide)
      repeat' apply And.intro
      all_goals first | exact this | walk_at "side"
    · have := fin 4 [[0, 1, 2], [3, 1, 2], [3, 3, 2], [3, 3, 3]] [1, 1, 1, 0] _ rfl (by decide) (by decide) rfl rfl (by decide) (by decide) (by intro _; decide)
      repeat' apply And.intro
      all_goals first | exact this | walk_at "side"
end Ly

namespace Ly
open PySem PySem.Spec PyProof.Rows L2
local macro_rules | `(tactic| walk_at "w") => `(tactic| try simp only [wRet, wRetN, wAndV, wOrV, wNotV, wCB, wCons, wNil, wV, wC, wChain, wTst, wTNot, wTAnd, wTOr, wIf, wOp, wIxN, wIx, wTup, wLst, wLenN, wSeq, wSkip, wIfS, wSet, wAsg, wgTup_iff, wgCons_iff, wgNil_iff, wgN, wCall, wCall0, wPar2, wPar3, wSl, woN, woS, wNeg, wDrop, wDct, wDct1, wListR1, wFor, wiR1, wiR2, wiSeq, wiEn, wiZip, wLc, wYes, wApp, wPop, wgIx,
  gIsi_iff, gLen_iff, gTuple_iff, gList_iff, gAll_iff, gI_iff, gAbs_iff, gMM_iff, gInt_iff, gEq_int, gEq_str, gEq_emp, listOf, gAdd_int, gAdd_tup, gAdd_lst, gAdd_lstN, gAdd_Nlst, gAdd_new, gMul_int, gMul_tup, gIsN_iff, gSl_tup, gSl_lst, gSl_new, sqL, sqT, sqN, ssL, ssT, ssO, dOf_val, dOf_new, svOf_val, svOf_new, kI, kB, kT, wipeD,
  List.getElem?_cons_zero, List.getElem?_cons_succ, List.getElem?_nil, List.set_cons_zero, List.set_cons_succ, List.map_cons, List.map_nil, List.length_cons, List.length_nil, RV.val.injEq, RV.new.injEq, D.bl.injEq, D.int.injEq, D.str.injEq, D.tup.injEq, D.lst.injEq, SV.val.injEq, SV.own.injEq, Option.some.injEq, exists_eq_left', exists_eq_left, exists_and_left, exists_eq_right, true_and, and_true, Bool.not_true, Bool.not_false, Bool.false_eq_true, if_true, if_false, reduceIte, ite_self, Bool.true_xor, Bool.false_xor, Bool.not_eq_true', decide_eq_true_eq, List.cons.injEq, isNon, exists_eq, exists_eq', at0, at1, mvD_len, tlD_len, rowD_def])
def PI (k : Nat) (x : D) : Prop := Pl x ∧ ∀ l, x = .tup l → l.length ≤ k
theorem PI.mono {k k' : Nat} {x : D} (h : PI k x) (hk : k ≤ k') : PI k' x := ⟨h.1, fun l e => Nat.le_trans (h.2 l e) hk⟩
theorem pairOf {k : Nat} {mv tl : List D} (h1 : mv.length ≤ k + 2) (h2 : tl.length ≤ k + 2) (h3 : ∀ x ∈ mv, PI (k + 2) x) (h4 : ∀ x ∈ tl, Pl x) : Pair (k + 2) (.tup [.tup mv, .tup tl]) := ⟨mv, tl, rfl, h1, h2, h3, h4⟩
theorem PI.cut {k : Nat} {l : List D} {p : Nat} {v : D} (h : ∀ x ∈ l, PI k x) (hv : PI (k + 2) v) : ∀ x ∈ l.take p ++ [v] ++ l.drop (p + 1), PI (k + 2) x := by
  intro x hx
  rcases cut_mem hx with hx | rfl
  · exact (h x hx).mono (by omega)
  · exact hv
theorem cut_le {α : Type} {l : List α} {p : Nat} {v : α} : (l.take p ++ [v] ++ l.drop (p + 1)).length ≤ l.length + 1 := by
  simp only [List.length_append, List.length_take, List.length_drop, List.length_cons, List.length_nil]; omega
theorem Pl.cut {l : List D} {p : Nat} {v : D} (h : ∀ x ∈ l, Pl x) (hv : Pl v) : ∀ x ∈ l.take p ++ [v] ++ l.drop (p + 1), Pl x := by
  intro x hx
  rcases cut_mem hx with hx | rfl
  · exact h x hx
  · exact hv
theorem dr {a : Addr} {m : Int} {n : Nat} {Q : D → Nat → Prop} (h1 : 1 ≤ m) (h2 : m ≤ 1000000) (hb : n + 1 ≤ 1000000000000) (h : ∀ (k : Nat) n', (k : Int) < m → n ≤ n' → n' ≤ n + 1 → Q (.int (k : Int)) n') : c_law_draw [.bag a, .int m] n Q := by
  refine ⟨a, m, rfl, h1, h2, hb, ?_⟩
  rintro d n2 ⟨k, rfl, k0, k1⟩ c1 c2
  obtain ⟨j, rfl⟩ : ∃ j : Nat, k = j := ⟨k.toNat, by omega⟩
  exact h j n2 k1 c1 c2
theorem pk {a : Addr} {s : D} {l : List D} {n : Nat} {Q : D → Nat → Prop} (hs : seqOf (.val s) = some l) (h1 : 1 ≤ l.length) (h2 : l.length ≤ 1000000) (hb : n + 1 ≤ 1000000000000) (h : ∀ d n', d ∈ l → n ≤ n' → n' ≤ n + 1 → Q d n') : c_law_pick [.bag a, s] n Q := ⟨a, s, l, rfl, hs, h1, h2, hb, fun d n' hd b1 b2 => h d n' hd b1 b2⟩
theorem od {a : Addr} {b : Int} {n : Nat} {Q : D → Nat → Prop} (hb : n + 1 ≤ 1000000000000) (h : ∀ d n', Pl d → n ≤ n' → n' ≤ n + 1 → Q d n') : c_law_odd [.bag a, .int b] n Q := ⟨a, b, rfl, hb, fun d n' hd b1 b2 => h d n' hd b1 b2⟩
theorem cutD_le {l : List D} {lo hi : Option Int} : (cutD l lo hi).length ≤ l.length := by
  unfold cutD
  exact Nat.le_trans (List.length_take_le' _ _) (by rw [List.length_drop]; omega)
theorem cutD_mem {l : List D} {lo hi : Option Int} {x : D} (h : x ∈ cutD l lo hi) : x ∈ l := List.mem_of_mem_drop (List.mem_of_mem_take h)
theorem wi {l : List D} {p : Nat} {v : D} {n : Nat} {Q : D → Nat → Prop} (h1 : l.length ≤ 1000) (h2 : p ≤ 1000) (h : Q (.tup (l.take p ++ [v] ++ l.drop (p + 1))) n) : c_law_with [.tup l, .int (p : Int), v] n Q := ⟨l, p, v, rfl, h1, h2, h⟩
theorem rep_mem {x y : D} {n : Nat} (h : x ∈ (List.replicate n [y]).flatten) : x = y := by
  rw [List.mem_flatten] at h
  obtain ⟨l, hl, hx⟩ := h
  rw [(List.mem_replicate.mp hl).2] at hx
  simpa using hx
theorem rep_len {y : D} {n : Nat} : (List.replicate n [y]).flatten.length = n := by simp
theorem PI.small {k : Nat} {l : List D} (h : l.length ≤ k) (hk : k ≤ 1000) (hm : ∀ x ∈ l, Pl x) : PI k (.tup l) := ⟨.tup (by omega) hm, fun l' e => by cases e; exact h⟩
theorem h_law_spoilt : ∀ ds n Q, ds.length = 2 → c_law_spoilt ds n Q → wb_law_spoilt { nx := fun _ n' => Q .non n', rt := Q } (startD ["jar", "value", "goals", "place", "moves", "tells", "state", "sort", "odd", "many", "long", "own"] ds) n := by
  rintro ds n Q - ⟨a, d, k, rfl, hk4, hk5, hk3, ⟨mv, tl, rfl, hl1, hl2, hm, ht⟩, hb, hr⟩
  show wb_law_spoilt _ [.val _, .val _, .un, .un, .un, .un, .un, .un, .un, .un, .un, .un] n
  unfold wb_law_spoilt; walk_at "w"
  unfold wb_law_spoilt_15; walk_at "w"
  have e1 : ((1 : Int) ≤ if (mv.length : Int) > 1 then (mv.length : Int) else 1) ∧ ((if (mv.length : Int) > 1 then (mv.length : Int) else 1) ≤ 1000000) := by split <;> omega
  refine dr e1.1 e1.2 (by omega) fun p n1 hp1 c1 c2 => ?_
  refine dr (by decide) (by decide) (by omega) fun w n2 hw1 c3 c4 => ?_
  refine ⟨_, _, ⟨rfl, rfl⟩, ?_⟩
  walk_at "w"
  have hp : p ≤ 1000 := by have := e1.2; split at hp1 <;> omega
  unfold wb_law_spoilt_14; walk_at "w"
  have main : ∀ g : List D, g.length ≤ k → (∀ x ∈ g, Pl x) → wb_law_spoilt_13 { nx := fun _ n' => Q .non n', rt := Q } [.val (.bag a), .val (.tup [.tup mv, .tup tl]), .val (.tup g), .un, .val (.tup mv), .val (.tup tl), .val (.int (p : Int)), .val (.int (w : Int)), .un, .un, .un, .un] n2 := by
    intro g hg1 hg2
    unfold wb_law_spoilt_13; walk_at "w"
    have e2 : ((1 : Int) ≤ if (g.length : Int) > 1 then (g.length : Int) else 1) ∧ ((if (g.length : Int) > 1 then (g.length : Int) else 1) ≤ 1000000) := by split <;> omega
    refine dr e2.1 e2.2 (by omega) fun q n3 hq1 c5 c6 => ?_
    have hq : q ≤ 1000 := by have := e2.2; split at hq1 <;> omega
    have mid : ∀ v n', PI (k + 2) v → n ≤ n' → n' ≤ n + 20 → Q (.tup [.tup (mv.take p ++ [v] ++ mv.drop (p + 1)), .tup tl]) n' := fun v n' hv b1 b2 =>
      hr _ _ (pairOf (Nat.le_trans cut_le (by omega)) (by omega) (PI.cut hm hv) ht) b1 b2
    unfold wb_law_spoilt_12; walk_at "w"
    by_cases w2 : (w : Int) < 2
    · rw [if_pos w2]
      refine od (by omega) fun o n4 ho c7 c8 => ?_
      refine wi (by omega) hq ?_
      refine wi (by omega) hp ?_
      refine ⟨by decide, mid _ _ ?_ (by omega) (by omega)⟩
      exact PI.small (Nat.le_trans cut_le (by omega)) (by omega) (Pl.cut hg2 ho)
    rw [if_neg w2]
    unfold wb_law_spoilt_11; walk_at "w"
    by_cases w4 : (w : Int) < 4
    · rw [if_pos w4]
      have e3 : ((1 : Int) ≤ if (tl.length : Int) > 1 then (tl.length : Int) else 1) ∧ ((if (tl.length : Int) > 1 then (tl.length : Int) else 1) ≤ 1000000) := by split <;> omega
      refine dr e3.1 e3.2 (by omega) fun z n4 hz1 c7 c8 => ?_
      have hz : z ≤ 1000 := by have := e3.2; split at hz1 <;> omega
      refine od (by omega) fun o n5 ho c9 c10 => ?_
      refine wi (by omega) hz ?_
      exact ⟨by decide, hr _ _ (pairOf (by omega) (Nat.le_trans cut_le (by omega)) (fun x hx => PI.mono (hm x hx) (by omega)) (Pl.cut ht ho)) (by omega) (by omega)⟩
    rw [if_neg w4]
    unfold wb_law_spoilt_10; walk_at "w"
    by_cases w4 : (w : Int) = 4
    · rw [if_pos w4]
      refine ⟨by decide, sz (by omega), by decide, by decide, ?_⟩
      refine pk rfl (by simp) (by simp) (by omega) fun x n4 hx c7 c8 => ?_
      unfold wb_law_spoilt_1; walk_at "w"
      refine wi (by omega) hp ?_
      refine ⟨by decide, mid _ _ ?_ (by omega) (by omega)⟩
      simp only [List.mem_cons, List.not_mem_nil, or_false] at hx
      rcases hx with rfl | rfl | rfl | rfl | rfl
      · exact ⟨.lst (by omega) hg2, fun l e => by cases e⟩
      · exact PI.small (Nat.le_trans cutD_le (by omega)) (by omega) fun x hx => hg2 x (cutD_mem hx)
      · refine PI.small (by rw [List.length_append]; simp only [List.length_cons, List.length_nil]; omega) (by omega) fun x hx => ?_
        rcases List.mem_append.mp hx with hx | hx
        · exact hg2 x hx
        · simp at hx; subst hx; constructor
      · exact ⟨.non, fun l e => by cases e⟩
      · refine PI.small (by simp; omega) (by omega) fun x hx => ?_
        simp at hx; subst hx; constructor
    rw [if_neg w4]
    unfold wb_law_spoilt_9; walk_at "w"
    by_cases w5 : (w : Int) = 5
    · rw [if_pos w5]
      refine ⟨by decide, sz (by omega), by decide, by decide, ?_⟩
      refine pk rfl (by simp) (by simp) (by omega) fun x n4 hx c7 c8 => ?_
      refine ⟨by decide, ?_⟩
      simp only [List.mem_cons, List.not_mem_nil, or_false] at hx
      rcases hx with rfl | rfl | rfl
      · exact hr _ _ (pairOf (by omega) (Nat.le_trans cutD_le (by omega)) (fun x hx => PI.mono (hm x hx) (by omega)) fun x hx => ht x (cutD_mem hx)) (by omega) (by omega)
      · refine hr _ _ (pairOf (by omega) (by rw [List.length_append]; simp only [List.length_cons, List.length_nil]; omega) (fun x hx => PI.mono (hm x hx) (by omega)) fun x hx => ?_) (by omega) (by omega)
        rcases List.mem_append.mp hx with hx | hx
        · exact ht x hx
        · simp at hx; subst hx; constructor
      · exact hr _ _ (pairOf (by omega) (by simp) (fun x hx => PI.mono (hm x hx) (by omega)) fun x hx => by simp at hx) (by omega) (by omega)
    rw [if_neg w5]
    unfold wb_law_spoilt_8; walk_at "w"
    by_cases w6 : (w : Int) = 6
    · rw [if_pos w6]
      refine ⟨by decide, ?_⟩
      refine pk rfl (by simp) (by simp) (by omega) fun x n4 hx c7 c8 => ?_
      obtain ⟨j, rfl, hj⟩ : ∃ j : Nat, x = .int (j : Int) ∧ j ≤ 4 := by
        simp only [List.mem_cons, List.not_mem_nil, or_false] at hx
        rcases hx with rfl | rfl | rfl | rfl | rfl
        · exact ⟨0, rfl, by omega⟩
        · exact ⟨4, rfl, by omega⟩
        · exact ⟨1, rfl, by omega⟩
        · exact ⟨2, rfl, by omega⟩
        · exact ⟨3, rfl, by omega⟩
      unfold wb_law_spoilt_2; walk_at "w"
      refine comp_map (fun i d => d = .tup (List.replicate j [D.int 0]).flatten) 0 ?_ (by omega) ?_
      · intro i x n5 hx b1 b2 K hK
        walk_at "w"
        refine ⟨by decide, by simp, by omega, by omega, by decide, ?_⟩
        exact hK _ _ _ (by rw [dOf_val, Int.toNat_natCast]) rfl (Nat.le_refl _) (Nat.le_refl _)
      · intro r n5 hr1 hP b1 b2
        walk_at "w"
        refine ⟨by decide, hr _ _ (pairOf (by omega) (by omega) (fun x hx => ?_) ht) (by omega) (by omega)⟩
        obtain ⟨i, hi, e⟩ := List.getElem_of_mem hx
        have := hP i x (by rw [List.getElem?_eq_getElem hi, e])
        rw [this]
        exact PI.small (by rw [rep_len]; omega) (by omega) fun y hy => by rw [rep_mem hy]; constructor
    rw [if_neg w6]
    unfold wb_law_spoilt_7; walk_at "w"
    by_cases w7 : (w : Int) = 7
    · rw [if_pos w7]
      refine ⟨by decide, ?_⟩
      refine pk rfl (by simp) (by simp) (by omega) fun x n4 hx c7 c8 => ?_
      obtain ⟨j, rfl, hj⟩ : ∃ j : Nat, x = .int (j : Int) ∧ j ≤ 30 := by
        simp only [List.mem_cons, List.not_mem_nil, or_false] at hx
        rcases hx with rfl | rfl | rfl
        · exact ⟨24, rfl, by omega⟩
        · exact ⟨25, rfl, by omega⟩
        · exact ⟨30, rfl, by omega⟩
      unfold wb_law_spoilt_3; walk_at "w"
      refine ⟨by decide, by simp, by omega, by omega, by decide, by decide, ?_⟩
      refine pk rfl (by simp) (by simp) (by omega) fun x n5 hx c9 c10 => ?_
      refine ⟨by decide, by simp, by omega, by omega, by decide, by decide, ?_⟩
      rw [Int.toNat_natCast]
      refine hr _ _ (pairOf (by rw [rep_len]; omega) (by rw [rep_len]; omega) (fun y hy => ?_) fun y hy => ?_) (by omega) (by omega)
      · rw [rep_mem hy]
        exact PI.small (by omega) (by omega) hg2
      · rw [rep_mem hy]
        simp only [List.mem_cons, List.not_mem_nil, or_false] at hx
        rcases hx with rfl | rfl | rfl <;> constructor
    rw [if_neg w7]
    unfold wb_law_spoilt_6; walk_at "w"
    by_cases w8 : (w : Int) = 8
    · rw [if_pos w8]
      refine ⟨by decide, by decide, by decide, by decide, by decide, by decide, ?_⟩
      refine pk rfl (by simp) (by simp) (by omega) fun x n4 hx c7 c8 => ?_
      refine wi (p := 0) (by omega) (by omega) ?_
      refine ⟨by decide, hr _ _ (pairOf (Nat.le_trans cut_le (by omega)) (by omega) (PI.cut hm ?_) ht) (by omega) (by omega)⟩
      simp only [List.mem_cons, List.not_mem_nil, or_false] at hx
      rcases hx with rfl | rfl | rfl | rfl | rfl | rfl
      · exact PI.small (by simp) (by omega) fun x hx => by simp at hx
      · refine PI.small (by simp) (by omega) fun x hx => by simp at hx; subst hx; constructor
      · refine PI.small (by simp) (by omega) fun x hx => by simp at hx; subst hx; constructor
      · refine PI.small (by simp; omega) (by omega) fun x hx => by simp at hx; subst hx; constructor
      · exact ⟨.lst (by simp) (fun x hx => by simp at hx; subst hx; constructor), fun l e => by cases e⟩
      · exact ⟨.int _, fun l e => by cases e⟩
    rw [if_neg w8]
    unfold wb_law_spoilt_5; walk_at "w"
    by_cases w9 : (w : Int) = 9
    · rw [if_pos w9]
      refine ⟨by decide, by decide, by decide, ?_⟩
      refine pk rfl (by simp) (by simp) (by omega) fun x n4 hx c7 c8 => ?_
      refine ⟨by decide, ?_⟩
      simp only [List.mem_cons, List.not_mem_nil, or_false] at hx
      rcases hx with rfl | rfl
      · exact hr _ _ (pairOf (by simp) (by simp) (fun x hx => by simp at hx) fun x hx => by simp at hx) (by omega) (by omega)
      · exact hr _ _ (pairOf (by simp) (by omega) (fun x hx => by simp at hx) ht) (by omega) (by omega)
    rw [if_neg w9]
    unfold wb_law_spoilt_4; walk_at "w"
    exact ⟨by decide, hr _ _ (pairOf (Nat.le_trans cutD_le (by omega)) (by omega) (fun x hx => PI.mono (hm x (cutD_mem hx)) (by omega)) ht) (by omega) (by omega)⟩
  have zero : 0 + 1 ≤ sizeLine ∧ wb_law_spoilt_13 { nx := fun _ n' => Q .non n', rt := Q } [.val (.bag a), .val (.tup [.tup mv, .tup tl]), .val (.tup [.int 0]), .un, .val (.tup mv), .val (.tup tl), .val (.int (p : Int)), .val (.int (w : Int)), .un, .un, .un, .un] n2 :=
    ⟨by decide, main [.int 0] (by simp; omega) (by intro x hx; simp at hx; subst hx; constructor)⟩
  by_cases hpl : (p : Int) < (mv.length : Int)
  · rw [if_pos hpl]
    have hpl' : p < mv.length := by omega
    have hx := hm mv[p] (List.getElem_mem hpl')
    refine ⟨mv[p], atI_nat (List.getElem?_eq_getElem hpl'), ?_⟩
    generalize hv : mv[p] = v at *
    obtain ⟨hx1, hx2⟩ := hx
    cases hx1 with
    | tup gl gm =>
      refine ⟨_, rfl, ?_⟩
      rw [if_pos rfl]
      exact ⟨_, atI_nat (by rw [List.getElem?_eq_getElem hpl', hv]), main _ (hx2 _ rfl) gm⟩
    | _ =>
      refine ⟨_, rfl, ?_⟩
      rw [if_neg (by decide)]
      exact zero
  · rw [if_neg hpl]; exact zero
end Ly

namespace Ly.K7
open PySem PySem.Spec PyProof.Rows L2
open TL (tl numL)
/-! ### texts of tellers -/
def num (i : Int) : Str := toString i
def lineS (r : List Int) (t : Int) : Str := Txt.join " " (r.map num) ++ " tells " ++ num t
def textS (mv : List (List Int)) (tl : List Int) : Str := Txt.join "\n" ((mv.zip tl).map fun p => lineS p.1 p.2)
structure MOk (m s : Nat) (mv : List (List Int)) (tl : List Int) : Prop where
  l1 : mv.length = s
  l2 : tl.length = s
  r : ∀ r ∈ mv, r.length = m ∧ ∀ x ∈ r, 0 ≤ x ∧ x < (s : Int)
  t : ∀ x ∈ tl, 0 ≤ x ∧ x ≤ 99
  s1 : 1 ≤ s
  s2 : s ≤ 24
  m1 : 1 ≤ m
  m3 : m ≤ 3
def mD (mv : List (List Int)) (tl : List Int) : D := .tup [.tup (mvD mv), .tup (tlD tl)]
def c_law_great : Ctr := fun ds n Q => ∃ a, ∃ m : Nat, ds = [.bag a, .int m] ∧ 1 ≤ m ∧ m ≤ 3 ∧ ret n 30 (fun d => ∃ s, 5 ≤ s ∧ s ≤ 24 ∧ Mach m s 1 d) Q
def c_read_number : Ctr := fun ds n Q => ∃ k hi : Nat, ds = [.str (num k), .int hi] ∧ k ≤ hi ∧ hi ≤ 99 ∧ Q (.int k) n
def c_teller_text : Ctr := fun ds n Q => ∃ m s mv tl, ds = [mD mv tl] ∧ MOk m s mv tl ∧ Q (.str (textS mv tl)) n
def c_law_text : Ctr := c_teller_text
def c_read_teller : Ctr := fun ds n Q => ∃ m s mv tl, ds = [.str (textS mv tl)] ∧ MOk m s mv tl ∧ Q (mD mv tl) n
def c_read_line : Ctr := fun ds n Q => ∃ m s : Nat, ∃ r : List Int, ∃ t : Nat, ds = [.str (lineS r t), .int ((s : Int) - 1)] ∧ r.length = m ∧ (∀ x ∈ r, 0 ≤ x ∧ x < (s : Int)) ∧ t ≤ 99 ∧ 1 ≤ s ∧ s ≤ 24 ∧ 1 ≤ m ∧ m ≤ 3 ∧ Q (.tup [rowD r, .int t]) n
def c_law : Ctr := fun ds n Q => ∃ ns, ds = [.scr ns] ∧ ns.length ≤ 63 ∧ n = 0 ∧ ∀ n', Q (.bl true) n'
def wb_read_number_1 : TDS := (wRet (wIf (wTst (wOp gLe (wV 2) (wV 1))) (wV 2) (wC .non)))
def wb_read_number_2 : TDS := (wSeq (wSet 2 (wCB gIntS (wCons (wV 0) wNil))) wb_read_number_1)
def wb_read_number_3 : TDS := (wSeq (wIfS (wTAnd (wTst (wOp gGt (wCB gLenS (wCons (wV 0) wNil)) (wC (.int 1)))) (wTst (wOp (gEq false) (wOp gIxS (wV 0) (wC (.int 0))) (wC (.str ("0" : Str)))))) (wRet (wC .non)) wSkip) wb_read_number_2)
def wb_read_number : TDS := (wSeq (wIfS (wTOr (wTNot (wTst (wM0 gAscii (wV 0)))) (wTOr (wTNot (wTst (wM0 gDecimal (wV 0)))) (wTst (wOp gGt (wCB gLenS (wCons (wV 0) wNil)) (wCB gLenS (wCons (wCB gStrI (wCons (wV 1) wNil)) wNil)))))) (wRet (wC .non)) wSkip) wb_read_number_3)
def wb_teller_text_1 : TDS := (wDrop (wApp 1 (wJoined [(wFmt (wV 6)), (wC (.str (" tells " : Str))), (wFmt (wV 5))])))
def wb_teller_text_2 : TDS := (wSeq (wSet 6 (wM1 gJoin (wC (.str (" " : Str))) (wLc (wiSeq (wV 4)) (wgN 7) wYes (wCB gStrI (wCons (wV 7) wNil)) [7]))) wb_teller_text_1)
def wb_teller_text_3 : TDS := (wRet (wM1 gJoin (wC (.str ("\n" : Str))) (wV 1)))
def wb_teller_text_4 : TDS := (wSeq (wFor (wiZip (wCons (wV 2) (wCons (wV 3) wNil))) (wgTup 2 (wgCons (wgN 4) (wgCons (wgN 5) wgNil))) wb_teller_text_2) wb_teller_text_3)
def wb_teller_text_5 : TDS := (wSeq (wSet 1 (wLst wNil)) wb_teller_text_4)
def wb_teller_text : TDS := (wSeq (wAsg (wV 0) (wgTup 2 (wgCons (wgN 2) (wgCons (wgN 3) wgNil)))) wb_teller_text_5)
def wb_read_teller_1 : TDS := (wSeq (wDrop (wApp 2 (wV 7))) (wDrop (wApp 3 (wV 8))))
def wb_read_teller_2 : TDS := (wSeq (wIfS (wTAnd (wTruN 2) (wTst (wOp (gEq true) (wLenN 7) (wCB gLen (wCons (wIxN 2 (wC (.int 0))) wNil))))) wNever wSkip) wb_read_teller_1)
def wb_read_teller_3 : TDS := (wSeq (wAsg (wV 6) (wgTup 2 (wgCons (wgN 7) (wgCons (wgN 8) wgNil)))) wb_read_teller_2)
def wb_read_teller_4 : TDS := (wSeq (wIfS (wTOr (wTst (wOp (gEq false) (wV 4) (wC (.int 24)))) (wTst (wOp (gIsN false) (wV 6) (wC .non)))) wNever wSkip) wb_read_teller_3)
def wb_read_teller_5 : TDS := (wSeq (wSet 6 (wCall 2 c_read_line (wCons (wV 5) (wCons (wOp gMinus (wLenN 1) (wC (.int 1))) wNil)))) wb_read_teller_4)
def wb_read_teller_6 : TDS := (wRet (wTup (wCons (wCB gTuple (wCons (wV 2) wNil)) (wCons (wCB gTuple (wCons (wV 3) wNil)) wNil))))
def wb_read_teller_7 : TDS := (wSeq (wFor (wiEn (wCons (wV 1) wNil)) (wgTup 2 (wgCons (wgN 4) (wgCons (wgN 5) wgNil))) wb_read_teller_5) wb_read_teller_6)
def wb_read_teller_8 : TDS := (wSeq (wSet 3 (wLst wNil)) wb_read_teller_7)
def wb_read_teller_9 : TDS := (wSeq (wSet 2 (wLst wNil)) wb_read_teller_8)
def wb_read_teller_10 : TDS := (wSeq (wSet 1 (wM1 gSplit (wV 0) (wC (.str ("\n" : Str))))) wb_read_teller_9)
def wb_read_teller : TDS := (wSeq (wIfS (wTNot (wTst (wCB gIsi (wCons (wV 0) (wCons (wC (.ty "str")) wNil))))) wNever wSkip) wb_read_teller_10)
def wb_read_line_1 : TDS := (wRet (wTup (wCons (wV 3) (wCons (wV 4) wNil))))
def wb_read_line_2 : TDS := (wSeq (wIfS (wTOr (wTst (wOp (gIn false) (wC .non) (wV 3))) (wTst (wOp (gIsN false) (wV 4) (wC .non)))) (wRet (wC .non)) wSkip) wb_read_line_1)
def wb_read_line_3 : TDS := (wSeq (wSet 4 (wCall 2 c_read_number (wCons (wIxN 2 (wNeg (wC (.int 1)))) (wCons (wC (.int 99)) wNil)))) wb_read_line_2)
def wb_read_line_4 : TDS := (wSeq (wSet 3 (wCB gTuple (wCons (wLc (wiSeq (wSl (wV 2) woN (woS (wNeg (wC (.int 2)))))) (wgN 5) wYes (wCall 2 c_read_number (wCons (wV 5) (wCons (wV 1) wNil))) [5]) wNil))) wb_read_line_3)
def wb_read_line_5 : TDS := (wSeq (wIfS (wTOr (wTNot (wTst (wChain gLe gLe (wC (.int 3)) (wLenN 2) (wOp gAdd (wC (.int 3)) (wC (.int 2)))))) (wTst (wOp (gEq true) (wIxN 2 (wNeg (wC (.int 2)))) (wC (.str ("tells" : Str)))))) (wRet (wC .non)) wSkip) wb_read_line_4)
def wb_read_line : TDS := (wSeq (wSet 2 (wM1 gSplit (wV 0) (wC (.str (" " : Str))))) wb_read_line_5)
def wb_law_great_1 : TDS := (wDrop (wApp 2 (wOp gAdd (wOp gMul (wTup (wCons (wV 6) wNil)) (wOp gMinus (wV 1) (wC (.int 1)))) (wTup (wCons (wIf (wTst (wV 5)) (wC (.int 0)) (wV 6)) wNil)))))
def wb_law_great_2 : TDS := (wSeq (wSet 6 (wOp gMod (wCB gInt (wCons (wOp gAdd (wV 3) (wC (.int 1))) wNil)) (wV 4))) wb_law_great_1)
def wb_law_great_3 : TDS := (wRet (wTup (wCons (wCB gTuple (wCons (wV 2) wNil)) (wCons (wCB gTuple (wCons (wLc (wiR1 (wCons (wV 4) wNil)) (wgN 3) wYes (wCall 2 c_law_draw (wCons (wV 0) (wCons (wC (.int 2)) wNil))) [3]) wNil)) wNil))))
def wb_law_great_4 : TDS := (wSeq (wFor (wiR1 (wCons (wV 4) wNil)) (wgN 3) wb_law_great_2) wb_law_great_3)
def wb_law_great_5 : TDS := (wSeq (wSet 2 (wLst wNil)) wb_law_great_4)
def wb_law_great : TDS := (wSeq (wPar2 4 5 (wCons (wOp gAdd (wC (.int 5)) (wCall 2 c_law_draw (wCons (wV 0) (wCons (wC (.int 20)) wNil)))) (wCons (wAndV (wOp gGt (wV 1) (wC (.int 1))) (wOp (gEq false) (wCall 2 c_law_draw (wCons (wV 0) (wCons (wC (.int 2)) wNil))) (wC (.int 1)))) wNil))) wb_law_great_5)
def wb_law_text_1 : TDS := (wDrop (wApp 1 (wOp gAddS (wOp gAddS (wM1 gJoin (wC (.str (" " : Str))) (wLc (wiSeq (wV 2)) (wgN 4) wYes (wCB gStrI (wCons (wV 4) wNil)) [4])) (wC (.str (" tells " : Str)))) (wCB gStrI (wCons (wV 3) wNil)))))
def wb_law_text_2 : TDS := (wRet (wM1 gJoin (wC (.str ("\n" : Str))) (wV 1)))
def wb_law_text_3 : TDS := (wSeq (wFor (wiZip (wCons (wIxN 0 (wC (.int 0))) (wCons (wIxN 0 (wC (.int 1))) wNil))) (wgTup 2 (wgCons (wgN 2) (wgCons (wgN 3) wgNil))) wb_law_text_1) wb_law_text_2)
def wb_law_text : TDS := (wSeq (wSet 1 (wLst wNil)) wb_law_text_3)
def wb_law_1 : TDS := (wIfS (wTOr (wTst (wOp (gEq true) (wReprN 8) (wCB gReprR (wCons (wCall 1 c_law_text (wCons (wV 5) wNil)) wNil)))) (wTst (wOp (gEq true) (wCB gReprR (wCons (wCall 1 c_read_teller (wCons (wV 8) wNil)) wNil)) (wReprN 5)))) (wRet (wC (.bl false))) wSkip)
def wb_law_2 : TDS := (wSeq (wSet 8 (wCall 1 c_teller_text (wCons (wV 5) wNil))) wb_law_1)
def wb_law_3 : TDS := (wIfS (wTst (wOp (gEq true) (wCB gReprR (wCons (wCall 1 c_read_teller (wCons (wCall 1 c_law_text (wCons (wV 5) wNil)) wNil)) wNil)) (wReprN 5))) (wRet (wC (.bl false))) wSkip)
def wb_law_4 : TDS := (wSeq (wFor (wiSeq (wSl (wV 4) (woS (wC (.int 1))) (woS (wC (.int 4))))) (wgN 5) wb_law_3) (wRet (wC (.bl true))))
def wb_law_5 : TDS := (wSeq (wFor (wiSeq (wV 4)) (wgN 5) wb_law_2) wb_law_4)
def wb_law_6 : TDS := (wSeq (wSet 4 (wLst (wCons (wV 6) (wCons (wV 2) (wCons (wV 7) (wCons (wCall 2 c_law_bent (wCons (wV 1) (wCons (wV 2) wNil))) (wCons (wV 3) (wCons (wCall 2 c_law_bent (wCons (wV 1) (wCons (wV 7) wNil))) (wCons (wV 6) wNil))))))))) wb_law_5)
def wb_law_7 : TDS := (wSeq (wSet 3 (wCall 4 c_law_any (wCons (wV 1) (wCons (wOp gAdd (wC (.int 1)) (wCall 2 c_law_draw (wCons (wV 1) (wCons (wC (.int 24)) wNil)))) (wCons (wOp gAdd (wC (.int 1)) (wCall 2 c_law_draw (wCons (wV 1) (wCons (wC (.int 3)) wNil)))) (wCons (wC (.int 99)) wNil)))))) wb_law_6)
def wb_law_8 : TDS := (wSeq (wSet 2 (wCall 2 c_law_wide (wCons (wV 1) (wCons (wV 6) wNil)))) wb_law_7)
def wb_law_9 : TDS := (wSeq (wPar2 6 7 (wCons (wCall 1 c_law_machine (wCons (wV 1) wNil)) (wCons (wCall 2 c_law_great (wCons (wV 1) (wCons (wOp gAdd (wC (.int 1)) (wCall 2 c_law_draw (wCons (wV 1) (wCons (wC (.int 3)) wNil)))) wNil))) wNil))) wb_law_8)
def wb_law : TDS := (wSeq (wSet 1 (wCall 1 c_law_bag (wCons (wV 0) wNil))) wb_law_9)
end Ly.K7

namespace Ly.K7
open PySem PySem.Spec PyProof.Rows L2 RZ 
def topS (i : Nat) : Stmt := PySem.Challenge.pw_endkeepers_k07_whole_texts_of_tellers.main.body.getD i (.Pass ⟨0, 0, 0, 0⟩)
abbrev s_read_number : Stmt := topS 7
abbrev N_read_number : List Str := ["word", "high", "number"]
abbrev p_read_number : List Str := ["word", "high"]
theorem sc_read_number : FnScope N_read_number p_read_number (defScope s_read_number) := ⟨rfl, rfl, rfl, by decide +kernel, rfl, by decide +kernel, by decide +kernel⟩
abbrev s_teller_text : Stmt := topS 9
abbrev N_teller_text : List Str := ["teller", "lines", "moves", "tells", "item", "number", "states", "state"]
abbrev p_teller_text : List Str := ["teller"]
theorem sc_teller_text : FnScope N_teller_text p_teller_text (defScope s_teller_text) := ⟨rfl, rfl, rfl, by decide +kernel, rfl, by decide +kernel, by decide +kernel⟩
abbrev s_read_teller : Stmt := topS 10
abbrev N_read_teller : List Str := ["value", "lines", "moves", "tells", "place", "line", "read", "item", "number"]
abbrev p_read_teller : List Str := ["value"]
theorem sc_read_teller : FnScope N_read_teller p_read_teller (defScope s_read_teller) := ⟨rfl, rfl, rfl, by decide +kernel, rfl, by decide +kernel, by decide +kernel⟩
abbrev s_read_line : Stmt := topS 11
abbrev N_read_line : List Str := ["line", "last", "words", "item", "number", "word"]
abbrev p_read_line : List Str := ["line", "last"]
theorem sc_read_line : FnScope N_read_line p_read_line (defScope s_read_line) := ⟨rfl, rfl, rfl, by decide +kernel, rfl, by decide +kernel, by decide +kernel⟩
abbrev s_law_bag : Stmt := topS 13
abbrev N_law_bag : List Str := ["script", "cell", "cells", "stirred"]
abbrev p_law_bag : List Str := ["script"]
theorem sc_law_bag : FnScope N_law_bag p_law_bag (defScope s_law_bag) := ⟨rfl, rfl, rfl, by decide +kernel, rfl, by decide +kernel, by decide +kernel⟩
abbrev s_law_draw : Stmt := topS 14
abbrev N_law_draw : List Str := ["bag", "many", "far", "turn", "mixed", "whole"]
abbrev p_law_draw : List Str := ["bag", "many"]
theorem sc_law_draw : FnScope N_law_draw p_law_draw (defScope s_law_draw) := ⟨rfl, rfl, rfl, by decide +kernel, rfl, by decide +kernel, by decide +kernel⟩
abbrev s_law_pick : Stmt := topS 15
abbrev N_law_pick : List Str := ["bag", "row"]
abbrev p_law_pick : List Str := ["bag", "row"]
theorem sc_law_pick : FnScope N_law_pick p_law_pick (defScope s_law_pick) := ⟨rfl, rfl, rfl, by decide +kernel, rfl, by decide +kernel, by decide +kernel⟩
abbrev s_law_known : Stmt := topS 16
abbrev N_law_known : List Str := ["name", "many", "others", "moves", "state", "letter"]
abbrev p_law_known : List Str := ["name", "many"]
theorem sc_law_known : FnScope N_law_known p_law_known (defScope s_law_known) := ⟨rfl, rfl, rfl, by decide +kernel, rfl, by decide +kernel, by decide +kernel⟩
abbrev s_law_names : Stmt := topS 17
abbrev N_law_names : List Str := []
abbrev p_law_names : List Str := []
theorem sc_law_names : FnScope N_law_names p_law_names (defScope s_law_names) := ⟨rfl, rfl, rfl, by decide +kernel, rfl, by decide +kernel, by decide +kernel⟩
abbrev s_law_any : Stmt := topS 18
abbrev N_law_any : List Str := ["bag", "states", "many", "top", "moves", "state", "letter"]
abbrev p_law_any : List Str := ["bag", "states", "many", "top"]
theorem sc_law_any : FnScope N_law_any p_law_any (defScope s_law_any) := ⟨rfl, rfl, rfl, by decide +kernel, rfl, by decide +kernel, by decide +kernel⟩
abbrev s_law_growing : Stmt := topS 19
abbrev N_law_growing : List Str := ["bag", "states", "many", "top", "moves", "state", "row", "letter"]
abbrev p_law_growing : List Str := ["bag", "states", "many", "top"]
theorem sc_law_growing : FnScope N_law_growing p_law_growing (defScope s_law_growing) := ⟨rfl, rfl, rfl, by decide +kernel, rfl, by decide +kernel, by decide +kernel⟩
abbrev s_law_bent : Stmt := topS 20
abbrev N_law_bent : List Str := ["bag", "machine", "state", "letter", "row", "moves", "tells"]
abbrev p_law_bent : List Str := ["bag", "machine"]
theorem sc_law_bent : FnScope N_law_bent p_law_bent (defScope s_law_bent) := ⟨rfl, rfl, rfl, by decide +kernel, rfl, by decide +kernel, by decide +kernel⟩
abbrev s_law_by_length : Stmt := topS 21
abbrev N_law_by_length : List Str := ["one", "other", "place", "moves", "tells", "wide", "goals", "odd", "left", "right", "first", "second"]
abbrev p_law_by_length : List Str := ["one", "other"]
theorem sc_law_by_length : FnScope N_law_by_length p_law_by_length (defScope s_law_by_length) := ⟨rfl, rfl, rfl, by decide +kernel, rfl, by decide +kernel, by decide +kernel⟩
abbrev s_law_both : Stmt := topS 22
abbrev N_law_both : List Str := ["one", "other", "place", "wide", "moves", "tells", "goals", "left", "right", "first", "second"]
abbrev p_law_both : List Str := ["one", "other"]
theorem sc_law_both : FnScope N_law_both p_law_both (defScope s_law_both) := ⟨rfl, rfl, rfl, by decide +kernel, rfl, by decide +kernel, by decide +kernel⟩
abbrev s_law_machine : Stmt := topS 23
abbrev N_law_machine : List Str := ["bag", "sort", "found", "other", "many", "states", "top"]
abbrev p_law_machine : List Str := ["bag"]
theorem sc_law_machine : FnScope N_law_machine p_law_machine (defScope s_law_machine) := ⟨rfl, rfl, rfl, by decide +kernel, rfl, by decide +kernel, by decide +kernel⟩
abbrev s_law_great : Stmt := topS 24
abbrev N_law_great : List Str := ["bag", "many", "moves", "state", "states", "back", "goal"]
abbrev p_law_great : List Str := ["bag", "many"]
theorem sc_law_great : FnScope N_law_great p_law_great (defScope s_law_great) := ⟨rfl, rfl, rfl, by decide +kernel, rfl, by decide +kernel, by decide +kernel⟩
abbrev s_law_split : Stmt := topS 25
abbrev N_law_split : List Str := ["bag", "machine", "states", "turn", "left", "own", "state", "rows", "moves", "tells", "homes", "place", "goal"]
abbrev p_law_split : List Str := ["bag", "machine", "states"]
theorem sc_law_split : FnScope N_law_split p_law_split (defScope s_law_split) := ⟨rfl, rfl, rfl, by decide +kernel, rfl, by decide +kernel, by decide +kernel⟩
abbrev s_law_wide : Stmt := topS 26
abbrev N_law_wide : List Str := ["bag", "machine", "room"]
abbrev p_law_wide : List Str := ["bag", "machine"]
theorem sc_law_wide : FnScope N_law_wide p_law_wide (defScope s_law_wide) := ⟨rfl, rfl, rfl, by decide +kernel, rfl, by decide +kernel, by decide +kernel⟩
abbrev s_law_text : Stmt := topS 27
abbrev N_law_text : List Str := ["machine", "lines", "goals", "number", "goal"]
abbrev p_law_text : List Str := ["machine"]
theorem sc_law_text : FnScope N_law_text p_law_text (defScope s_law_text) := ⟨rfl, rfl, rfl, by decide +kernel, rfl, by decide +kernel, by decide +kernel⟩
abbrev s_law : Stmt := topS 28
abbrev N_law : List Str := ["script", "jar", "beside", "odd", "some", "own", "machine", "other", "line"]
abbrev p_law : List Str := ["script"]
theorem sc_law : FnScope N_law p_law (defScope s_law) := ⟨rfl, rfl, rfl, by decide +kernel, rfl, by decide +kernel, by decide +kernel⟩
structure Txt (K : PySem.W.Frag) (mg : Str → Option Value) where
  n_abs : mg "abs" = none
  n_enumerate : mg "enumerate" = none
  n_int : mg "int" = none
  n_isinstance : mg "isinstance" = none
  n_len : mg "len" = none
  n_list : mg "list" = none
  n_min : mg "min" = none
  n_range : mg "range" = none
  n_repr : mg "repr" = none
  n_str : mg "str" = none
  n_tuple : mg "tuple" = none
  n_zip : mg "zip" = none
  t_MAX_KINDS : Tok
  c_MAX_KINDS : mg "MAX_KINDS" = some (.int 3 t_MAX_KINDS)
  t_MAX_STATES : Tok
  c_MAX_STATES : mg "MAX_STATES" = some (.int 24 t_MAX_STATES)
  t_MAX_TOLD : Tok
  c_MAX_TOLD : mg "MAX_TOLD" = some (.int 99 t_MAX_TOLD)
  a_read_number : Addr
  d_read_number : FuncData
  F_read_number : Fun K "read_number" "read_number" s_read_number a_read_number d_read_number
  b_read_number : Binds K d_read_number p_read_number []
  g_read_number : mg "read_number" = some (.ref a_read_number)
  a_teller_text : Addr
  d_teller_text : FuncData
  F_teller_text : Fun K "teller_text" "teller_text" s_teller_text a_teller_text d_teller_text
  b_teller_text : Binds K d_teller_text p_teller_text []
  g_teller_text : mg "teller_text" = some (.ref a_teller_text)
  a_read_teller : Addr
  d_read_teller : FuncData
  F_read_teller : Fun K "read_teller" "read_teller" s_read_teller a_read_teller d_read_teller
  b_read_teller : Binds K d_read_teller p_read_teller []
  g_read_teller : mg "read_teller" = some (.ref a_read_teller)
  a_read_line : Addr
  d_read_line : FuncData
  F_read_line : Fun K "_read_line" "_read_line" s_read_line a_read_line d_read_line
  b_read_line : Binds K d_read_line p_read_line []
  g_read_line : mg "_read_line" = some (.ref a_read_line)
  a_law_bag : Addr
  d_law_bag : FuncData
  F_law_bag : Fun K "_law_bag" "_law_bag" s_law_bag a_law_bag d_law_bag
  b_law_bag : Binds K d_law_bag p_law_bag []
  g_law_bag : mg "_law_bag" = some (.ref a_law_bag)
  a_law_draw : Addr
  d_law_draw : FuncData
  F_law_draw : Fun K "_law_draw" "_law_draw" s_law_draw a_law_draw d_law_draw
  b_law_draw : Binds K d_law_draw p_law_draw []
  g_law_draw : mg "_law_draw" = some (.ref a_law_draw)
  a_law_pick : Addr
  d_law_pick : FuncData
  F_law_pick : Fun K "_law_pick" "_law_pick" s_law_pick a_law_pick d_law_pick
  b_law_pick : Binds K d_law_pick p_law_pick []
  g_law_pick : mg "_law_pick" = some (.ref a_law_pick)
  a_law_known : Addr
  d_law_known : FuncData
  F_law_known : Fun K "_law_known" "_law_known" s_law_known a_law_known d_law_known
  b_law_known : Binds K d_law_known p_law_known []
  g_law_known : mg "_law_known" = some (.ref a_law_known)
  a_law_names : Addr
  d_law_names : FuncData
  F_law_names : Fun K "_law_names" "_law_names" s_law_names a_law_names d_law_names
  b_law_names : Binds K d_law_names p_law_names []
  g_law_names : mg "_law_names" = some (.ref a_law_names)
  a_law_any : Addr
  d_law_any : FuncData
  F_law_any : Fun K "_law_any" "_law_any" s_law_any a_law_any d_law_any
  b_law_any : Binds K d_law_any p_law_any []
  g_law_any : mg "_law_any" = some (.ref a_law_any)
  a_law_growing : Addr
  d_law_growing : FuncData
  F_law_growing : Fun K "_law_growing" "_law_growing" s_law_growing a_law_growing d_law_growing
  b_law_growing : Binds K d_law_growing p_law_growing []
  g_law_growing : mg "_law_growing" = some (.ref a_law_growing)
  a_law_bent : Addr
  d_law_bent : FuncData
  F_law_bent : Fun K "_law_bent" "_law_bent" s_law_bent a_law_bent d_law_bent
  b_law_bent : Binds K d_law_bent p_law_bent []
  g_law_bent : mg "_law_bent" = some (.ref a_law_bent)
  a_law_by_length : Addr
  d_law_by_length : FuncData
  F_law_by_length : Fun K "_law_by_length" "_law_by_length" s_law_by_length a_law_by_length d_law_by_length
  b_law_by_length : Binds K d_law_by_length p_law_by_length []
  g_law_by_length : mg "_law_by_length" = some (.ref a_law_by_length)
  a_law_both : Addr
  d_law_both : FuncData
  F_law_both : Fun K "_law_both" "_law_both" s_law_both a_law_both d_law_both
  b_law_both : Binds K d_law_both p_law_both []
  g_law_both : mg "_law_both" = some (.ref a_law_both)
  a_law_machine : Addr
  d_law_machine : FuncData
  F_law_machine : Fun K "_law_machine" "_law_machine" s_law_machine a_law_machine d_law_machine
  b_law_machine : Binds K d_law_machine p_law_machine []
  g_law_machine : mg "_law_machine" = some (.ref a_law_machine)
  a_law_great : Addr
  d_law_great : FuncData
  F_law_great : Fun K "_law_great" "_law_great" s_law_great a_law_great d_law_great
  b_law_great : Binds K d_law_great p_law_great []
  g_law_great : mg "_law_great" = some (.ref a_law_great)
  a_law_split : Addr
  d_law_split : FuncData
  F_law_split : Fun K "_law_split" "_law_split" s_law_split a_law_split d_law_split
  b_law_split : Binds K d_law_split p_law_split []
  g_law_split : mg "_law_split" = some (.ref a_law_split)
  a_law_wide : Addr
  d_law_wide : FuncData
  F_law_wide : Fun K "_law_wide" "_law_wide" s_law_wide a_law_wide d_law_wide
  b_law_wide : Binds K d_law_wide p_law_wide []
  g_law_wide : mg "_law_wide" = some (.ref a_law_wide)
  a_law_text : Addr
  d_law_text : FuncData
  F_law_text : Fun K "_law_text" "_law_text" s_law_text a_law_text d_law_text
  b_law_text : Binds K d_law_text p_law_text []
  g_law_text : mg "_law_text" = some (.ref a_law_text)
  a_law : Addr
  d_law : FuncData
  F_law : Fun K "law" "law" s_law a_law d_law
  b_law : Binds K d_law p_law []
  g_law : mg "law" = some (.ref a_law)
section
variable {P : Program} {w : World} {K : PySem.W.Frag} {mg : Str → Option Value} {base : Heap}
abbrev ok_read_number (P : Program) (w : World) (base : Heap) (T : Txt K mg) : Prop := FnOk P w K mg base CX0 1 T.a_read_number T.d_read_number p_read_number (spC K 2 c_read_number)
abbrev ok_teller_text (P : Program) (w : World) (base : Heap) (T : Txt K mg) : Prop := FnOk P w K mg base CX0 1 T.a_teller_text T.d_teller_text p_teller_text (spC K 1 c_teller_text)
abbrev ok_read_teller (P : Program) (w : World) (base : Heap) (T : Txt K mg) : Prop := FnOk P w K mg base CX0 3 T.a_read_teller T.d_read_teller p_read_teller (spC K 1 c_read_teller)
abbrev ok_read_line (P : Program) (w : World) (base : Heap) (T : Txt K mg) : Prop := FnOk P w K mg base CX0 2 T.a_read_line T.d_read_line p_read_line (spC K 2 c_read_line)
abbrev ok_law_bag (P : Program) (w : World) (base : Heap) (T : Txt K mg) : Prop := FnOk P w K mg base CX0 1 T.a_law_bag T.d_law_bag p_law_bag (spC K 1 c_law_bag)
abbrev ok_law_draw (P : Program) (w : World) (base : Heap) (T : Txt K mg) : Prop := FnOk P w K mg base CX0 1 T.a_law_draw T.d_law_draw p_law_draw (spC K 2 c_law_draw)
abbrev ok_law_pick (P : Program) (w : World) (base : Heap) (T : Txt K mg) : Prop := FnOk P w K mg base CX0 2 T.a_law_pick T.d_law_pick p_law_pick (spC K 2 c_law_pick)
abbrev ok_law_known (P : Program) (w : World) (base : Heap) (T : Txt K mg) : Prop := FnOk P w K mg base CX0 1 T.a_law_known T.d_law_known p_law_known (spC K 2 c_law_known)
abbrev ok_law_names (P : Program) (w : World) (base : Heap) (T : Txt K mg) : Prop := FnOk P w K mg base CX0 1 T.a_law_names T.d_law_names p_law_names (spC K 0 c_law_names)
abbrev ok_law_any (P : Program) (w : World) (base : Heap) (T : Txt K mg) : Prop := FnOk P w K mg base CX0 2 T.a_law_any T.d_law_any p_law_any (spC K 4 c_law_any)
abbrev ok_law_growing (P : Program) (w : World) (base : Heap) (T : Txt K mg) : Prop := FnOk P w K mg base CX0 2 T.a_law_growing T.d_law_growing p_law_growing (spC K 4 c_law_growing)
abbrev ok_law_bent (P : Program) (w : World) (base : Heap) (T : Txt K mg) : Prop := FnOk P w K mg base CX0 3 T.a_law_bent T.d_law_bent p_law_bent (spC K 2 c_law_bent)
abbrev ok_law_by_length (P : Program) (w : World) (base : Heap) (T : Txt K mg) : Prop := FnOk P w K mg base CX0 1 T.a_law_by_length T.d_law_by_length p_law_by_length (spC K 2 c_law_by_length)
abbrev ok_law_both (P : Program) (w : World) (base : Heap) (T : Txt K mg) : Prop := FnOk P w K mg base CX0 1 T.a_law_both T.d_law_both p_law_both (spC K 2 c_law_both)
abbrev ok_law_machine (P : Program) (w : World) (base : Heap) (T : Txt K mg) : Prop := FnOk P w K mg base CX0 4 T.a_law_machine T.d_law_machine p_law_machine (spC K 1 c_law_machine)
abbrev ok_law_great (P : Program) (w : World) (base : Heap) (T : Txt K mg) : Prop := FnOk P w K mg base CX0 2 T.a_law_great T.d_law_great p_law_great (spC K 2 c_law_great)
abbrev ok_law_split (P : Program) (w : World) (base : Heap) (T : Txt K mg) : Prop := FnOk P w K mg base CX0 3 T.a_law_split T.d_law_split p_law_split (spC K 3 c_law_split)
abbrev ok_law_wide (P : Program) (w : World) (base : Heap) (T : Txt K mg) : Prop := FnOk P w K mg base CX0 4 T.a_law_wide T.d_law_wide p_law_wide (spC K 2 c_law_wide)
abbrev ok_law_text (P : Program) (w : World) (base : Heap) (T : Txt K mg) : Prop := FnOk P w K mg base CX0 1 T.a_law_text T.d_law_text p_law_text (spC K 1 c_law_text)
abbrev ok_law (P : Program) (w : World) (base : Heap) (T : Txt K mg) : Prop := FnG P w K mg base 5 T.a_law T.d_law p_law (spC K 1 c_law)
theorem dss_read_number (T : Txt K mg)  {cdv : Value} {A : Around} {outer : List Env} {s : Shared} {H : Hp} {E : XK} {B : Bs} (hr : Room 0 (A.deeper (envOfC "read_number" (defScope s_read_number) s.heap.objs.size T.a_read_number cdv))) :
    DSs (cxOf CX0 P w K mg base N_read_number "read_number" (defScope s_read_number) T.a_read_number cdv A outer s H E).nox B (defBody s_read_number) wb_read_number :=
  (dss_cons (ds_if (dt_bool (dw_or (dt_not (dt_val (de_m0 PySem.F.slot_str_isascii PySem.F.type_str_isascii mt_isascii (fun _ _ h => ⟨_, h, fun _ _ => .bl _⟩) (de_var (pv 0))))) (dw_or (dt_not (dt_val (de_m0 PySem.F.slot_str_isdecimal PySem.F.type_str_isdecimal mt_isdecimal (fun _ _ h => ⟨_, h, fun _ _ => .bl _⟩) (de_var (pv 0))))) (dw_or1 (dt_gt (de_callB snd_lenS call_len_str (by rfl) T.n_len PySem.boot_len (da_cons (de_var (pv 0)) da_nil)) (de_callB snd_lenS call_len_str (by rfl) T.n_len PySem.boot_len (da_cons (de_callTy snd_strI call_str_int (by rfl) T.n_str (by decide +kernel) (da_cons (de_var (pv 1)) da_nil)) da_nil))))))) (dss_one (ds_ret de_non)) dss_nil)
    (dss_cons (ds_if (dt_bool (dw_and (dt_gt (de_callB snd_lenS call_len_str (by rfl) T.n_len PySem.boot_len (da_cons (de_var (pv 0)) da_nil)) de_int) (dw_and1 (dt_eq hr.units (de_ixS (de_var (pv 0)) de_int (fun _ _ => rfl)) de_str)))) (dss_one (ds_ret de_non)) dss_nil)
    (dss_cons (ds_set (ps_set (i := 2) sc_read_number.nd rfl (Or.inl rfl) (de_callTy snd_intS call_int_str (by rfl) T.n_int (by decide +kernel) (da_cons (de_var (pv 0)) da_nil))))
    (dss_one (ds_ret (de_if (dt_le (de_var (pv 2)) (de_var (pv 1))) (de_var (pv 2)) de_non))))))
theorem dss_teller_text (T : Txt K mg)  {cdv : Value} {A : Around} {outer : List Env} {s : Shared} {H : Hp} {E : XK} {B : Bs} (hr : Room 0 (A.deeper (envOfC "teller_text" (defScope s_teller_text) s.heap.objs.size T.a_teller_text cdv))) :
    DSs (cxOf CX0 P w K mg base N_teller_text "teller_text" (defScope s_teller_text) T.a_teller_text cdv A outer s H E).nox B (defBody s_teller_text) wb_teller_text :=
  (dss_cons (ds_asg (ps_asg (de_var (pv 0)) (dg_tup (pg_tup rfl (dgs_cons (dg_name (pg_name (i := 2) sc_teller_text.nd rfl (Or.inl rfl))) (dgs_cons (dg_name (pg_name (i := 3) sc_teller_text.nd rfl (Or.inl rfl))) dgs_nil (pgs_cons (dg_name (pg_name (i := 3) sc_teller_text.nd rfl (Or.inl rfl))) dgs_nil)) (pgs_cons (dg_name (pg_name (i := 2) sc_teller_text.nd rfl (Or.inl rfl))) (dgs_cons (dg_name (pg_name (i := 3) sc_teller_text.nd rfl (Or.inl rfl))) dgs_nil (pgs_cons (dg_name (pg_name (i := 3) sc_teller_text.nd rfl (Or.inl rfl))) dgs_nil))))))))
    (dss_cons (ds_set (ps_set (i := 1) sc_teller_text.nd rfl (Or.inl rfl) (de_lst da_nil)))
    (dss_cons (ds_for PassesOwn.never rfl (di_zip (pi_zipA (by rfl) T.n_zip (da_cons (de_var (pv 2)) (da_cons (de_var (pv 3)) da_nil)))) (dg_tup (pg_tup rfl (dgs_cons (dg_name (pg_name (i := 4) sc_teller_text.nd rfl (Or.inl rfl))) (dgs_cons (dg_name (pg_name (i := 5) sc_teller_text.nd rfl (Or.inl rfl))) dgs_nil (pgs_cons (dg_name (pg_name (i := 5) sc_teller_text.nd rfl (Or.inl rfl))) dgs_nil)) (pgs_cons (dg_name (pg_name (i := 4) sc_teller_text.nd rfl (Or.inl rfl))) (dgs_cons (dg_name (pg_name (i := 5) sc_teller_text.nd rfl (Or.inl rfl))) dgs_nil (pgs_cons (dg_name (pg_name (i := 5) sc_teller_text.nd rfl (Or.inl rfl))) dgs_nil)))))) (dss_cons (ds_set (ps_set (i := 6) sc_teller_text.nd rfl (Or.inl rfl) (de_m1 snd_join PySem.F.slot_str_join PySem.F.type_str_join mt_join de_str (de_lc (own := [("state", 7)]) (vs := [7]) rfl (by simp) (pe_lc (own := [("state", 7)]) rfl sc_teller_text.nd (di_seq (de_var (pv 4))) (blkOk_by (own := [("state", 7)]) (N := N_teller_text) (sc := defScope s_teller_text) (by decide +kernel)) (fun _ _ _ _ _ => (dg_name (pg_name (i := 7) sc_teller_text.nd rfl (Or.inl rfl)))) (fun _ _ _ _ _ => dts_nil) (fun _ _ _ _ _ => (de_callTy snd_strI call_str_int (by rfl) T.n_str (by decide +kernel) (da_cons (de_var (pv 7)) da_nil))))))))
    (dss_one (ds_expr (de_app (pe_bm PySem.F.plainAttrs_list PySem.F.slot_list_append PySem.F.type_list_append mt_append (pv 1) (pa_cons (de_joined (.cons (de_fmt (de_var (pv 6))) (.cons de_str (.cons (de_fmt (de_var (pv 5))) .nil)))) pa_nil)))))))
    (dss_one (ds_ret (de_m1 snd_join PySem.F.slot_str_join PySem.F.type_str_join mt_join de_str (de_var (pv 1))))))))
theorem dss_read_teller (T : Txt K mg) (G_read_line : ok_read_line P w base T) {cdv : Value} {A : Around} {outer : List Env} {s : Shared} {H : Hp} {E : XK} {B : Bs} (hr : Room 2 (A.deeper (envOfC "read_teller" (defScope s_read_teller) s.heap.objs.size T.a_read_teller cdv))) :
    DSs (cxOf CX0 P w K mg base N_read_teller "read_teller" (defScope s_read_teller) T.a_read_teller cdv A outer s H E).nox B (defBody s_read_teller) wb_read_teller :=
  (dss_cons (ds_if (dt_not (dt_val (de_callB snd_isi call_isi (by rfl) T.n_isinstance (by decide +kernel) (da_cons (de_var (pv 0)) (da_cons (de_ty (by rfl) T.n_str (by decide +kernel)) da_nil))))) (dss_one ds_never) dss_nil)
    (dss_cons (ds_set (ps_set (i := 1) sc_read_teller.nd rfl (Or.inl rfl) (de_m1 snd_split PySem.F.slot_str_split PySem.F.type_str_split mt_split (de_var (pv 0)) de_str)))
    (dss_cons (ds_set (ps_set (i := 2) sc_read_teller.nd rfl (Or.inl rfl) (de_lst da_nil)))
    (dss_cons (ds_set (ps_set (i := 3) sc_read_teller.nd rfl (Or.inl rfl) (de_lst da_nil)))
    (dss_cons (ds_for PassesOwn.never rfl (di_enum (pi_enumA (by rfl) T.n_enumerate (da_cons (de_var (pv 1)) da_nil))) (dg_tup (pg_tup rfl (dgs_cons (dg_name (pg_name (i := 4) sc_read_teller.nd rfl (Or.inl rfl))) (dgs_cons (dg_name (pg_name (i := 5) sc_read_teller.nd rfl (Or.inl rfl))) dgs_nil (pgs_cons (dg_name (pg_name (i := 5) sc_read_teller.nd rfl (Or.inl rfl))) dgs_nil)) (pgs_cons (dg_name (pg_name (i := 4) sc_read_teller.nd rfl (Or.inl rfl))) (dgs_cons (dg_name (pg_name (i := 5) sc_read_teller.nd rfl (Or.inl rfl))) dgs_nil (pgs_cons (dg_name (pg_name (i := 5) sc_read_teller.nd rfl (Or.inl rfl))) dgs_nil)))))) (dss_cons (ds_set (ps_set (i := 6) sc_read_teller.nd rfl (Or.inl rfl) (de_call (pe_call G_read_line (hr.mono (by decide)) (by rfl) T.g_read_line T.F_read_line.kp T.b_read_line .nil pass0 (da_cons (de_var (pv 5)) (da_cons (de_sub (de_lenN (pv 1) (by rfl) T.n_len) de_int) da_nil))))))
    (dss_cons (ds_if (dt_bool (dw_or (dt_eq hr.units (de_var (pv 4)) (de_glob (by rfl) T.c_MAX_STATES (by decide))) (dw_or1 (dt_isN (de_var (pv 6)) de_non)))) (dss_one ds_never) dss_nil)
    (dss_cons (ds_asg (ps_asg (de_var (pv 6)) (dg_tup (pg_tup rfl (dgs_cons (dg_name (pg_name (i := 7) sc_read_teller.nd rfl (Or.inl rfl))) (dgs_cons (dg_name (pg_name (i := 8) sc_read_teller.nd rfl (Or.inl rfl))) dgs_nil (pgs_cons (dg_name (pg_name (i := 8) sc_read_teller.nd rfl (Or.inl rfl))) dgs_nil)) (pgs_cons (dg_name (pg_name (i := 7) sc_read_teller.nd rfl (Or.inl rfl))) (dgs_cons (dg_name (pg_name (i := 8) sc_read_teller.nd rfl (Or.inl rfl))) dgs_nil (pgs_cons (dg_name (pg_name (i := 8) sc_read_teller.nd rfl (Or.inl rfl))) dgs_nil))))))))
    (dss_cons (ds_if (dt_bool (dw_and (dt_truN (pv 2)) (dw_and1 (dt_ne hr.units (de_lenN (pv 7) (by rfl) T.n_len) (de_callB snd_len call_len (by rfl) T.n_len PySem.boot_len (da_cons (de_ixN (pv 2) de_int (fun _ _ => rfl)) da_nil)))))) (dss_one ds_never) dss_nil)
    (dss_cons (ds_expr (de_app (pe_bm PySem.F.plainAttrs_list PySem.F.slot_list_append PySem.F.type_list_append mt_append (pv 2) (pa_cons (de_var (pv 7)) pa_nil))))
    (dss_one (ds_expr (de_app (pe_bm PySem.F.plainAttrs_list PySem.F.slot_list_append PySem.F.type_list_append mt_append (pv 3) (pa_cons (de_var (pv 8)) pa_nil)))))))))))
    (dss_one (ds_ret (de_tup (da_cons (de_callTy snd_tuple call_tuple_of (by rfl) T.n_tuple (by decide +kernel) (da_cons (de_var (pv 2)) da_nil)) (da_cons (de_callTy snd_tuple call_tuple_of (by rfl) T.n_tuple (by decide +kernel) (da_cons (de_var (pv 3)) da_nil)) da_nil))))))))))
theorem dss_read_line (T : Txt K mg) (G_read_number : ok_read_number P w base T) {cdv : Value} {A : Around} {outer : List Env} {s : Shared} {H : Hp} {E : XK} {B : Bs} (hr : Room 1 (A.deeper (envOfC "_read_line" (defScope s_read_line) s.heap.objs.size T.a_read_line cdv))) :
    DSs (cxOf CX0 P w K mg base N_read_line "_read_line" (defScope s_read_line) T.a_read_line cdv A outer s H E).nox B (defBody s_read_line) wb_read_line :=
  (dss_cons (ds_set (ps_set (i := 2) sc_read_line.nd rfl (Or.inl rfl) (de_m1 snd_split PySem.F.slot_str_split PySem.F.type_str_split mt_split (de_var (pv 0)) de_str)))
    (dss_cons (ds_if (dt_bool (dw_or (dt_not (dt_chainLL de_int (de_lenN (pv 2) (by rfl) T.n_len) (de_add (de_glob (by rfl) T.c_MAX_KINDS (by decide)) de_int))) (dw_or1 (dt_ne hr.units (de_ixN (pv 2) (de_neg de_int) (fun _ _ => rfl)) de_str)))) (dss_one (ds_ret de_non)) dss_nil)
    (dss_cons (ds_set (ps_set (i := 3) sc_read_line.nd rfl (Or.inl rfl) (de_callTy snd_tuple call_tuple_of (by rfl) T.n_tuple (by decide +kernel) (da_cons (de_lc (own := [("word", 5)]) (vs := [5]) rfl (by simp) (pe_lc (own := [("word", 5)]) rfl sc_read_line.nd (di_seq (de_slice (de_var (pv 2)) do_none (do_some (de_neg de_int)))) (blkOk_by (own := [("word", 5)]) (N := N_read_line) (sc := defScope s_read_line) (by decide +kernel)) (fun _ _ _ _ _ => (dg_name (pg_name (i := 5) sc_read_line.nd rfl (Or.inl rfl)))) (fun _ _ _ _ _ => dts_nil) (fun _ _ _ _ _ => (de_call (pe_call G_read_number (hr.mono (by decide)) (by rfl) T.g_read_number T.F_read_number.kp T.b_read_number .nil pass0 (da_cons (de_var (pv 5)) (da_cons (de_var (pv 1)) da_nil))))))) da_nil))))
    (dss_cons (ds_set (ps_set (i := 4) sc_read_line.nd rfl (Or.inl rfl) (de_call (pe_call G_read_number (hr.mono (by decide)) (by rfl) T.g_read_number T.F_read_number.kp T.b_read_number .nil pass0 (da_cons (de_ixN (pv 2) (de_neg de_int) (fun _ _ => rfl)) (da_cons (de_glob (by rfl) T.c_MAX_TOLD (by decide)) da_nil))))))
    (dss_cons (ds_if (dt_bool (dw_or (dt_in (hu65_of hr) de_non (de_var (pv 3))) (dw_or1 (dt_isN (de_var (pv 4)) de_non)))) (dss_one (ds_ret de_non)) dss_nil)
    (dss_one (ds_ret (de_tup (da_cons (de_var (pv 3)) (da_cons (de_var (pv 4)) da_nil))))))))))
theorem dss_law_pick (T : Txt K mg) (G_law_draw : ok_law_draw P w base T) {cdv : Value} {A : Around} {outer : List Env} {s : Shared} {H : Hp} {E : XK} {B : Bs} (hr : Room 1 (A.deeper (envOfC "_law_pick" (defScope s_law_pick) s.heap.objs.size T.a_law_pick cdv))) :
    DSs (cxOf CX0 P w K mg base N_law_pick "_law_pick" (defScope s_law_pick) T.a_law_pick cdv A outer s H E).nox B (defBody s_law_pick) wb_law_pick :=
  (dss_one (ds_ret (de_ixN (pv 1) (de_call (pe_call G_law_draw (hr.mono (by decide)) (by rfl) T.g_law_draw T.F_law_draw.kp T.b_law_draw .nil pass0 (da_cons (de_var (pv 0)) (da_cons (de_lenN (pv 1) (by rfl) T.n_len) da_nil)))) (fun _ _ => rfl))))
theorem dss_law_known (T : Txt K mg)  {cdv : Value} {A : Around} {outer : List Env} {s : Shared} {H : Hp} {E : XK} {B : Bs} (hr : Room 0 (A.deeper (envOfC "_law_known" (defScope s_law_known) s.heap.objs.size T.a_law_known cdv))) :
    DSs (cxOf CX0 P w K mg base N_law_known "_law_known" (defScope s_law_known) T.a_law_known cdv A outer s H E).nox B (defBody s_law_known) wb_law_known :=
  (dss_cons (ds_set (ps_set (i := 2) sc_law_known.nd rfl (Or.inl rfl) (de_mul (de_tup (da_cons de_int da_nil)) (de_sub (de_var (pv 1)) de_int))))
    (dss_cons (ds_if (dt_eq hr.units (de_var (pv 0)) de_str) (dss_one (ds_ret (de_tup (da_cons (de_tup (da_cons (de_add (de_tup (da_cons de_int da_nil)) (de_mul (de_tup (da_cons de_int da_nil)) (de_sub (de_var (pv 1)) de_int))) (da_cons (de_mul (de_tup (da_cons de_int da_nil)) (de_var (pv 1))) (da_cons (de_mul (de_tup (da_cons de_int da_nil)) (de_var (pv 1))) da_nil)))) (da_cons (de_tup (da_cons de_int (da_cons de_int (da_cons de_int da_nil)))) da_nil))))) dss_nil)
    (dss_cons (ds_if (dt_eq hr.units (de_var (pv 0)) de_str) (dss_one (ds_ret (de_tup (da_cons (de_callTy snd_tuple call_tuple_of (by rfl) T.n_tuple (by decide +kernel) (da_cons (de_lc (own := [("state", 4)]) (vs := [4]) rfl (by simp) (pe_lc (own := [("state", 4)]) rfl sc_law_known.nd (di_r1 (by rfl) T.n_range (da_cons de_int da_nil)) (blkOk_by (own := [("state", 4)]) (N := N_law_known) (sc := defScope s_law_known) (by decide +kernel)) (fun _ _ _ _ _ => (dg_name (pg_name (i := 4) sc_law_known.nd rfl (Or.inl rfl)))) (fun _ _ _ _ _ => dts_nil) (fun _ _ _ _ _ => (de_add (de_tup (da_cons (de_callB snd_mm (call_min2 rfl) (by rfl) T.n_min (by decide +kernel) (da_cons de_int (da_cons (de_add (de_var (pv 4)) de_int) da_nil))) da_nil)) (de_mul (de_tup (da_cons (de_var (pv 4)) da_nil)) (de_sub (de_var (pv 1)) de_int)))))) da_nil)) (da_cons (de_tup (da_cons de_int (da_cons de_int (da_cons de_int (da_cons de_int da_nil))))) da_nil))))) dss_nil)
    (dss_cons (ds_if (dt_eq hr.units (de_var (pv 0)) de_str) (dss_one (ds_ret (de_tup (da_cons (de_tup (da_cons (de_add (de_tup (da_cons de_int da_nil)) (de_var (pv 2))) (da_cons (de_add (de_tup (da_cons de_int da_nil)) (de_var (pv 2))) da_nil))) (da_cons (de_tup (da_cons de_int (da_cons de_int da_nil))) da_nil))))) dss_nil)
    (dss_cons (ds_if (dt_eq hr.units (de_var (pv 0)) de_str) (dss_one (ds_ret (de_tup (da_cons (de_tup (da_cons (de_add (de_tup (da_cons de_int da_nil)) (de_var (pv 2))) (da_cons (de_mul (de_tup (da_cons de_int da_nil)) (de_var (pv 1))) da_nil))) (da_cons (de_tup (da_cons de_int (da_cons de_int da_nil))) da_nil))))) dss_nil)
    (dss_cons (ds_if (dt_eq hr.units (de_var (pv 0)) de_str) (dss_one (ds_ret (de_tup (da_cons (de_tup (da_cons (de_mul (de_tup (da_cons de_int da_nil)) (de_var (pv 1))) (da_cons (de_mul (de_tup (da_cons de_int da_nil)) (de_var (pv 1))) (da_cons (de_mul (de_tup (da_cons de_int da_nil)) (de_var (pv 1))) da_nil)))) (da_cons (de_tup (da_cons de_int (da_cons de_int (da_cons de_int da_nil)))) da_nil))))) dss_nil)
    (dss_cons (ds_if (dt_eq hr.units (de_var (pv 0)) de_str) (dss_one (ds_ret (de_tup (da_cons (de_tup (da_cons (de_add (de_tup (da_cons de_int da_nil)) (de_var (pv 2))) (da_cons (de_add (de_tup (da_cons de_int da_nil)) (de_mul (de_tup (da_cons de_int da_nil)) (de_sub (de_var (pv 1)) de_int))) da_nil))) (da_cons (de_tup (da_cons de_int (da_cons de_int da_nil))) da_nil))))) dss_nil)
    (dss_cons (ds_if (dt_eq hr.units (de_var (pv 0)) de_str) (dss_one (ds_ret (de_tup (da_cons (de_tup (da_cons (de_add (de_tup (da_cons de_int da_nil)) (de_var (pv 2))) (da_cons (de_slice (de_tup (da_cons de_int (da_cons de_int (da_cons de_int da_nil)))) do_none (do_some (de_var (pv 1)))) (da_cons (de_mul (de_tup (da_cons de_int da_nil)) (de_var (pv 1))) da_nil)))) (da_cons (de_tup (da_cons de_int (da_cons de_int (da_cons de_int da_nil)))) da_nil))))) dss_nil)
    (dss_cons (ds_setLc (own := [("state", 4)]) (vs := [4]) rfl (by simp) (ps_setLc (i := 3) (own := [("state", 4)]) rfl sc_law_known.nd rfl rfl (sw_true rfl rfl rfl (by decide +kernel)) (di_r1 (by rfl) T.n_range (da_cons (de_var (pv 1)) da_nil)) (blkOk_by (own := [("state", 4)]) (N := N_law_known) (sc := defScope s_law_known) (by decide +kernel)) (fun _ _ _ _ _ => (dg_name (pg_name (i := 4) sc_law_known.nd rfl (Or.inr rfl)))) (fun _ _ _ _ _ => dts_nil) (fun _ _ _ _ _ => (de_callTy snd_tuple call_tuple_of (by rfl) T.n_tuple (by decide +kernel) (da_cons (de_lc (own := [("letter", 5)]) (vs := [5]) rfl (by simp) (pe_lc (own := [("letter", 5)]) rfl sc_law_known.nd (di_r1 (by rfl) T.n_range (da_cons (de_var (pv 1)) da_nil)) (blkOk_by (own := [("letter", 5)]) (N := N_law_known) (sc := relS _ (defScope s_law_known)) (by decide +kernel)) (fun _ _ _ _ _ => (dg_name (pg_name (i := 5) sc_law_known.nd rfl (Or.inl rfl)))) (fun _ _ _ _ _ => dts_nil) (fun _ _ _ _ _ => (de_if (dt_lt (de_var (pv 5)) (de_var (pv 4))) (de_var (pv 1)) (de_var (pv 5)))))) da_nil)))))
    (dss_one (ds_ret (de_tup (da_cons (de_add (de_callTy snd_tuple call_tuple_of (by rfl) T.n_tuple (by decide +kernel) (da_cons (de_var (pv 3)) da_nil)) (de_tup (da_cons (de_mul (de_tup (da_cons (de_var (pv 1)) da_nil)) (de_var (pv 1))) da_nil))) (da_cons (de_add (de_mul (de_tup (da_cons de_int da_nil)) (de_var (pv 1))) (de_tup (da_cons de_int da_nil))) da_nil))))))))))))))
theorem dss_law_names (T : Txt K mg)  {cdv : Value} {A : Around} {outer : List Env} {s : Shared} {H : Hp} {E : XK} {B : Bs} (hr : Room 0 (A.deeper (envOfC "_law_names" (defScope s_law_names) s.heap.objs.size T.a_law_names cdv))) :
    DSs (cxOf CX0 P w K mg base N_law_names "_law_names" (defScope s_law_names) T.a_law_names cdv A outer s H E).nox B (defBody s_law_names) wb_law_names :=
  (dss_one (ds_ret (de_lst (da_cons de_str (da_cons de_str (da_cons de_str (da_cons de_str (da_cons de_str (da_cons de_str (da_cons de_str (da_cons de_str da_nil)))))))))))
theorem dss_law_any (T : Txt K mg) (G_law_draw : ok_law_draw P w base T) {cdv : Value} {A : Around} {outer : List Env} {s : Shared} {H : Hp} {E : XK} {B : Bs} (hr : Room 1 (A.deeper (envOfC "_law_any" (defScope s_law_any) s.heap.objs.size T.a_law_any cdv))) :
    DSs (cxOf CX0 P w K mg base N_law_any "_law_any" (defScope s_law_any) T.a_law_any cdv A outer s H E).nox B (defBody s_law_any) wb_law_any :=
  (dss_cons (ds_set (ps_set (i := 4) sc_law_any.nd rfl (Or.inl rfl) (de_callTy snd_tuple call_tuple_of (by rfl) T.n_tuple (by decide +kernel) (da_cons (de_lc (own := [("state", 5)]) (vs := [5]) rfl (by simp) (pe_lc (own := [("state", 5)]) rfl sc_law_any.nd (di_r1 (by rfl) T.n_range (da_cons (de_var (pv 1)) da_nil)) (blkOk_by (own := [("state", 5)]) (N := N_law_any) (sc := defScope s_law_any) (by decide +kernel)) (fun _ _ _ _ _ => (dg_name (pg_name (i := 5) sc_law_any.nd rfl (Or.inl rfl)))) (fun _ _ _ _ _ => dts_nil) (fun _ _ _ _ _ => (de_callTy snd_tuple call_tuple_of (by rfl) T.n_tuple (by decide +kernel) (da_cons (de_lc (own := [("letter", 6)]) (vs := [6]) rfl (by simp) (pe_lc (own := [("letter", 6)]) rfl sc_law_any.nd (di_r1 (by rfl) T.n_range (da_cons (de_var (pv 2)) da_nil)) (blkOk_by (own := [("letter", 6)]) (N := N_law_any) (sc := relS _ (defScope s_law_any)) (by decide +kernel)) (fun _ _ _ _ _ => (dg_name (pg_name (i := 6) sc_law_any.nd rfl (Or.inl rfl)))) (fun _ _ _ _ _ => dts_nil) (fun _ _ _ _ _ => (de_call (pe_call G_law_draw (hr.mono (by decide)) (by rfl) T.g_law_draw T.F_law_draw.kp T.b_law_draw .nil pass0 (da_cons (de_var (pv 0)) (da_cons (de_var (pv 1)) da_nil))))))) da_nil))))) da_nil))))
    (dss_one (ds_ret (de_tup (da_cons (de_var (pv 4)) (da_cons (de_callTy snd_tuple call_tuple_of (by rfl) T.n_tuple (by decide +kernel) (da_cons (de_lc (own := [("state", 5)]) (vs := [5]) rfl (by simp) (pe_lc (own := [("state", 5)]) rfl sc_law_any.nd (di_r1 (by rfl) T.n_range (da_cons (de_var (pv 1)) da_nil)) (blkOk_by (own := [("state", 5)]) (N := N_law_any) (sc := defScope s_law_any) (by decide +kernel)) (fun _ _ _ _ _ => (dg_name (pg_name (i := 5) sc_law_any.nd rfl (Or.inl rfl)))) (fun _ _ _ _ _ => dts_nil) (fun _ _ _ _ _ => (de_call (pe_call G_law_draw (hr.mono (by decide)) (by rfl) T.g_law_draw T.F_law_draw.kp T.b_law_draw .nil pass0 (da_cons (de_var (pv 0)) (da_cons (de_add (de_var (pv 3)) de_int) da_nil))))))) da_nil)) da_nil))))))
theorem dss_law_growing (T : Txt K mg) (G_law_draw : ok_law_draw P w base T) {cdv : Value} {A : Around} {outer : List Env} {s : Shared} {H : Hp} {E : XK} {B : Bs} (hr : Room 1 (A.deeper (envOfC "_law_growing" (defScope s_law_growing) s.heap.objs.size T.a_law_growing cdv))) :
    DSs (cxOf CX0 P w K mg base N_law_growing "_law_growing" (defScope s_law_growing) T.a_law_growing cdv A outer s H E).nox B (defBody s_law_growing) wb_law_growing :=
  (dss_cons (ds_set (ps_set (i := 4) sc_law_growing.nd rfl (Or.inl rfl) (de_lst da_nil)))
    (dss_cons (ds_for PassesOwn.never rfl (di_r1 (by rfl) T.n_range (da_cons (de_var (pv 1)) da_nil)) (dg_name (pg_name (i := 5) sc_law_growing.nd rfl (Or.inr rfl))) (dss_cons (ds_setLc (own := [("letter", 7)]) (vs := [7]) rfl (by simp) (ps_setLc (i := 6) (own := [("letter", 7)]) rfl sc_law_growing.nd rfl rfl (sw_true rfl rfl rfl (by decide +kernel)) (di_r1 (by rfl) T.n_range (da_cons (de_var (pv 2)) da_nil)) (blkOk_by (own := [("letter", 7)]) (N := N_law_growing) (sc := defScope s_law_growing) (by decide +kernel)) (fun _ _ _ _ _ => (dg_name (pg_name (i := 7) sc_law_growing.nd rfl (Or.inl rfl)))) (fun _ _ _ _ _ => dts_nil) (fun _ _ _ _ _ => (de_callB snd_mm (call_min2 rfl) (by rfl) T.n_min (by decide +kernel) (da_cons (de_sub (de_var (pv 1)) de_int) (da_cons (de_add (de_var (pv 5)) (de_call (pe_call G_law_draw (hr.mono (by decide)) (by rfl) T.g_law_draw T.F_law_draw.kp T.b_law_draw .nil pass0 (da_cons (de_var (pv 0)) (da_cons de_int da_nil))))) da_nil))))))
    (dss_cons (ds_if (dt_eq hr.units (de_call (pe_call G_law_draw (hr.mono (by decide)) (by rfl) T.g_law_draw T.F_law_draw.kp T.b_law_draw .nil pass0 (da_cons (de_var (pv 0)) (da_cons de_int da_nil)))) de_int) (dss_one (ds_setIx (ps_asg (de_call (pe_call G_law_draw (hr.mono (by decide)) (by rfl) T.g_law_draw T.F_law_draw.kp T.b_law_draw .nil pass0 (da_cons (de_var (pv 0)) (da_cons (de_var (pv 1)) da_nil)))) (pg_sub (pv 6) (de_call (pe_call G_law_draw (hr.mono (by decide)) (by rfl) T.g_law_draw T.F_law_draw.kp T.b_law_draw .nil pass0 (da_cons (de_var (pv 0)) (da_cons (de_var (pv 2)) da_nil)))) set_list)))) dss_nil)
    (dss_one (ds_expr (de_app (pe_bm PySem.F.plainAttrs_list PySem.F.slot_list_append PySem.F.type_list_append mt_append (pv 4) (pa_cons (de_callTy snd_tuple call_tuple_of (by rfl) T.n_tuple (by decide +kernel) (da_cons (de_var (pv 6)) da_nil)) pa_nil))))))))
    (dss_one (ds_ret (de_tup (da_cons (de_callTy snd_tuple call_tuple_of (by rfl) T.n_tuple (by decide +kernel) (da_cons (de_var (pv 4)) da_nil)) (da_cons (de_callTy snd_tuple call_tuple_of (by rfl) T.n_tuple (by decide +kernel) (da_cons (de_lc (own := [("state", 5)]) (vs := [5]) rfl (by simp) (pe_lc (own := [("state", 5)]) rfl sc_law_growing.nd (di_r1 (by rfl) T.n_range (da_cons (de_var (pv 1)) da_nil)) (blkOk_by (own := [("state", 5)]) (N := N_law_growing) (sc := defScope s_law_growing) (by decide +kernel)) (fun _ _ _ _ _ => (dg_name (pg_name (i := 5) sc_law_growing.nd rfl (Or.inl rfl)))) (fun _ _ _ _ _ => dts_nil) (fun _ _ _ _ _ => (de_call (pe_call G_law_draw (hr.mono (by decide)) (by rfl) T.g_law_draw T.F_law_draw.kp T.b_law_draw .nil pass0 (da_cons (de_var (pv 0)) (da_cons (de_add (de_var (pv 3)) de_int) da_nil))))))) da_nil)) da_nil)))))))
theorem dss_law_bent (T : Txt K mg) (G_law_draw : ok_law_draw P w base T) (G_law_pick : ok_law_pick P w base T) {cdv : Value} {A : Around} {outer : List Env} {s : Shared} {H : Hp} {E : XK} {B : Bs} (hr : Room 2 (A.deeper (envOfC "_law_bent" (defScope s_law_bent) s.heap.objs.size T.a_law_bent cdv))) :
    DSs (cxOf CX0 P w K mg base N_law_bent "_law_bent" (defScope s_law_bent) T.a_law_bent cdv A outer s H E).nox B (defBody s_law_bent) wb_law_bent :=
  (dss_cons (ds_asg (ps_asg (de_var (pv 1)) (dg_tup (pg_tup rfl (dgs_cons (dg_name (pg_name (i := 5) sc_law_bent.nd rfl (Or.inl rfl))) (dgs_cons (dg_name (pg_name (i := 6) sc_law_bent.nd rfl (Or.inl rfl))) dgs_nil (pgs_cons (dg_name (pg_name (i := 6) sc_law_bent.nd rfl (Or.inl rfl))) dgs_nil)) (pgs_cons (dg_name (pg_name (i := 5) sc_law_bent.nd rfl (Or.inl rfl))) (dgs_cons (dg_name (pg_name (i := 6) sc_law_bent.nd rfl (Or.inl rfl))) dgs_nil (pgs_cons (dg_name (pg_name (i := 6) sc_law_bent.nd rfl (Or.inl rfl))) dgs_nil))))))))
    (dss_cons (ds_set (ps_set (i := 2) sc_law_bent.nd rfl (Or.inl rfl) (de_call (pe_call G_law_draw (hr.mono (by decide)) (by rfl) T.g_law_draw T.F_law_draw.kp T.b_law_draw .nil pass0 (da_cons (de_var (pv 0)) (da_cons (de_lenN (pv 5) (by rfl) T.n_len) da_nil))))))
    (dss_cons (ds_if (dt_eq hr.units (de_call (pe_call G_law_draw (hr.mono (by decide)) (by rfl) T.g_law_draw T.F_law_draw.kp T.b_law_draw .nil pass0 (da_cons (de_var (pv 0)) (da_cons de_int da_nil)))) de_int) (dss_one (ds_ret (de_tup (da_cons (de_var (pv 5)) (da_cons (de_add (de_add (de_slice (de_var (pv 6)) do_none (do_some (de_var (pv 2)))) (de_tup (da_cons (de_call (pe_call G_law_pick (hr.mono (by decide)) (by rfl) T.g_law_pick T.F_law_pick.kp T.b_law_pick .nil pass0 (da_cons (de_var (pv 0)) (da_cons (de_lst (da_cons de_int (da_cons de_int (da_cons de_int (da_cons de_int da_nil))))) da_nil)))) da_nil))) (de_slice (de_var (pv 6)) (do_some (de_add (de_var (pv 2)) de_int)) do_none)) da_nil))))) dss_nil)
    (dss_cons (ds_set (ps_set (i := 3) sc_law_bent.nd rfl (Or.inl rfl) (de_call (pe_call G_law_draw (hr.mono (by decide)) (by rfl) T.g_law_draw T.F_law_draw.kp T.b_law_draw .nil pass0 (da_cons (de_var (pv 0)) (da_cons (de_callB snd_len call_len (by rfl) T.n_len PySem.boot_len (da_cons (de_ixN (pv 5) de_int (fun _ _ => rfl)) da_nil)) da_nil))))))
    (dss_cons (ds_set (ps_set (i := 4) sc_law_bent.nd rfl (Or.inl rfl) (de_add (de_add (de_slice (de_ixN (pv 5) (de_var (pv 2)) (fun _ _ => rfl)) do_none (do_some (de_var (pv 3)))) (de_tup (da_cons (de_call (pe_call G_law_draw (hr.mono (by decide)) (by rfl) T.g_law_draw T.F_law_draw.kp T.b_law_draw .nil pass0 (da_cons (de_var (pv 0)) (da_cons (de_lenN (pv 5) (by rfl) T.n_len) da_nil)))) da_nil))) (de_slice (de_ixN (pv 5) (de_var (pv 2)) (fun _ _ => rfl)) (do_some (de_add (de_var (pv 3)) de_int)) do_none))))
    (dss_one (ds_ret (de_tup (da_cons (de_add (de_add (de_slice (de_var (pv 5)) do_none (do_some (de_var (pv 2)))) (de_tup (da_cons (de_var (pv 4)) da_nil))) (de_slice (de_var (pv 5)) (do_some (de_add (de_var (pv 2)) de_int)) do_none)) (da_cons (de_var (pv 6)) da_nil))))))))))
theorem dss_law_by_length (T : Txt K mg)  {cdv : Value} {A : Around} {outer : List Env} {s : Shared} {H : Hp} {E : XK} {B : Bs} (hr : Room 0 (A.deeper (envOfC "_law_by_length" (defScope s_law_by_length) s.heap.objs.size T.a_law_by_length cdv))) :
    DSs (cxOf CX0 P w K mg base N_law_by_length "_law_by_length" (defScope s_law_by_length) T.a_law_by_length cdv A outer s H E).nox B (defBody s_law_by_length) wb_law_by_length :=
  (dss_cons (ds_par3 (i := 3) (j := 4) (l := 5) (ps_par3 rfl sc_law_by_length.nd rfl rfl rfl (by decide) (by decide) (by decide) rfl rfl rfl (da_cons (de_lst da_nil) (da_cons (de_lst da_nil) (da_cons (de_callB snd_len call_len (by rfl) T.n_len PySem.boot_len (da_cons (de_ixN (pv 1) de_int (fun _ _ => rfl)) da_nil)) da_nil))) (by rfl)))
    (dss_cons (ds_for PassesOwn.never rfl (di_r1 (by rfl) T.n_range (da_cons (de_mul (de_mul de_int (de_callB snd_len call_len (by rfl) T.n_len PySem.boot_len (da_cons (de_ixN (pv 0) de_int (fun _ _ => rfl)) da_nil))) (de_var (pv 5))) da_nil)) (dg_name (pg_name (i := 2) sc_law_by_length.nd rfl (Or.inl rfl))) (dss_cons (ds_par3 (i := 7) (j := 8) (l := 9) (ps_par3 rfl sc_law_by_length.nd rfl rfl rfl (by decide) (by decide) (by decide) rfl rfl rfl (da_cons (de_mod (de_var (pv 2)) de_int) (da_cons (de_div (de_div (de_var (pv 2)) de_int) (de_var (pv 5))) (da_cons (de_mod (de_div (de_var (pv 2)) de_int) (de_var (pv 5))) da_nil))) (by rfl)))
    (dss_cons (ds_set (ps_set (i := 6) sc_law_by_length.nd rfl (Or.inl rfl) (de_lst da_nil)))
    (dss_cons (ds_for PassesOwn.never rfl (di_zip (pi_zipA (by rfl) T.n_zip (da_cons (de_ix (de_ixN (pv 0) de_int (fun _ _ => rfl)) (de_var (pv 8)) (fun _ _ => rfl)) (da_cons (de_ix (de_ixN (pv 1) de_int (fun _ _ => rfl)) (de_var (pv 9)) (fun _ _ => rfl)) da_nil)))) (dg_tup (pg_tup rfl (dgs_cons (dg_name (pg_name (i := 10) sc_law_by_length.nd rfl (Or.inl rfl))) (dgs_cons (dg_name (pg_name (i := 11) sc_law_by_length.nd rfl (Or.inl rfl))) dgs_nil (pgs_cons (dg_name (pg_name (i := 11) sc_law_by_length.nd rfl (Or.inl rfl))) dgs_nil)) (pgs_cons (dg_name (pg_name (i := 10) sc_law_by_length.nd rfl (Or.inl rfl))) (dgs_cons (dg_name (pg_name (i := 11) sc_law_by_length.nd rfl (Or.inl rfl))) dgs_nil (pgs_cons (dg_name (pg_name (i := 11) sc_law_by_length.nd rfl (Or.inl rfl))) dgs_nil)))))) (dss_one (ds_expr (de_app (pe_bm PySem.F.plainAttrs_list PySem.F.slot_list_append PySem.F.type_list_append mt_append (pv 6) (pa_cons (de_sub (de_add (de_mul de_int (de_add (de_mul (de_var (pv 10)) (de_var (pv 5))) (de_var (pv 11)))) de_int) (de_var (pv 7))) pa_nil))))))
    (dss_cons (ds_expr (de_app (pe_bm PySem.F.plainAttrs_list PySem.F.slot_list_append PySem.F.type_list_append mt_append (pv 3) (pa_cons (de_callTy snd_tuple call_tuple_of (by rfl) T.n_tuple (by decide +kernel) (da_cons (de_var (pv 6)) da_nil)) pa_nil))))
    (dss_one (ds_expr (de_app (pe_bm PySem.F.plainAttrs_list PySem.F.slot_list_append PySem.F.type_list_append mt_append (pv 4) (pa_cons (de_if (dt_eq hr.units (de_var (pv 7)) de_int) (de_ix (de_ixN (pv 1) de_int (fun _ _ => rfl)) (de_var (pv 9)) (fun _ _ => rfl)) (de_ix (de_ixN (pv 0) de_int (fun _ _ => rfl)) (de_var (pv 8)) (fun _ _ => rfl))) pa_nil))))))))))
    (dss_one (ds_ret (de_tup (da_cons (de_callTy snd_tuple call_tuple_of (by rfl) T.n_tuple (by decide +kernel) (da_cons (de_var (pv 3)) da_nil)) (da_cons (de_callTy snd_tuple call_tuple_of (by rfl) T.n_tuple (by decide +kernel) (da_cons (de_var (pv 4)) da_nil)) da_nil)))))))
theorem dss_law_both (T : Txt K mg)  {cdv : Value} {A : Around} {outer : List Env} {s : Shared} {H : Hp} {E : XK} {B : Bs} (hr : Room 0 (A.deeper (envOfC "_law_both" (defScope s_law_both) s.heap.objs.size T.a_law_both cdv))) :
    DSs (cxOf CX0 P w K mg base N_law_both "_law_both" (defScope s_law_both) T.a_law_both cdv A outer s H E).nox B (defBody s_law_both) wb_law_both :=
  (dss_cons (ds_par3 (i := 3) (j := 4) (l := 5) (ps_par3 rfl sc_law_both.nd rfl rfl rfl (by decide) (by decide) (by decide) rfl rfl rfl (da_cons (de_callB snd_len call_len (by rfl) T.n_len PySem.boot_len (da_cons (de_ixN (pv 1) de_int (fun _ _ => rfl)) da_nil)) (da_cons (de_lst da_nil) (da_cons (de_lst da_nil) da_nil))) (by rfl)))
    (dss_cons (ds_for PassesOwn.never rfl (di_r1 (by rfl) T.n_range (da_cons (de_mul (de_callB snd_len call_len (by rfl) T.n_len PySem.boot_len (da_cons (de_ixN (pv 0) de_int (fun _ _ => rfl)) da_nil)) (de_var (pv 3))) da_nil)) (dg_name (pg_name (i := 2) sc_law_both.nd rfl (Or.inl rfl))) (dss_cons (ds_par2 (i := 7) (j := 8) (ps_par rfl sc_law_both.nd rfl rfl (by decide) rfl rfl (da_cons (de_div (de_var (pv 2)) (de_var (pv 3))) (da_cons (de_mod (de_callTy snd_int call_int1 (by rfl) T.n_int (by decide +kernel) (da_cons (de_var (pv 2)) da_nil)) (de_var (pv 3))) da_nil)) (by rfl)))
    (dss_cons (ds_set (ps_set (i := 6) sc_law_both.nd rfl (Or.inl rfl) (de_lst da_nil)))
    (dss_cons (ds_for PassesOwn.never rfl (di_zip (pi_zipA (by rfl) T.n_zip (da_cons (de_ix (de_ixN (pv 0) de_int (fun _ _ => rfl)) (de_var (pv 7)) (fun _ _ => rfl)) (da_cons (de_ix (de_ixN (pv 1) de_int (fun _ _ => rfl)) (de_var (pv 8)) (fun _ _ => rfl)) da_nil)))) (dg_tup (pg_tup rfl (dgs_cons (dg_name (pg_name (i := 9) sc_law_both.nd rfl (Or.inl rfl))) (dgs_cons (dg_name (pg_name (i := 10) sc_law_both.nd rfl (Or.inl rfl))) dgs_nil (pgs_cons (dg_name (pg_name (i := 10) sc_law_both.nd rfl (Or.inl rfl))) dgs_nil)) (pgs_cons (dg_name (pg_name (i := 9) sc_law_both.nd rfl (Or.inl rfl))) (dgs_cons (dg_name (pg_name (i := 10) sc_law_both.nd rfl (Or.inl rfl))) dgs_nil (pgs_cons (dg_name (pg_name (i := 10) sc_law_both.nd rfl (Or.inl rfl))) dgs_nil)))))) (dss_one (ds_expr (de_app (pe_bm PySem.F.plainAttrs_list PySem.F.slot_list_append PySem.F.type_list_append mt_append (pv 6) (pa_cons (de_add (de_mul (de_var (pv 9)) (de_var (pv 3))) (de_var (pv 10))) pa_nil))))))
    (dss_cons (ds_expr (de_app (pe_bm PySem.F.plainAttrs_list PySem.F.slot_list_append PySem.F.type_list_append mt_append (pv 4) (pa_cons (de_callTy snd_tuple call_tuple_of (by rfl) T.n_tuple (by decide +kernel) (da_cons (de_var (pv 6)) da_nil)) pa_nil))))
    (dss_one (ds_expr (de_app (pe_bm PySem.F.plainAttrs_list PySem.F.slot_list_append PySem.F.type_list_append mt_append (pv 5) (pa_cons (de_add (de_mul de_int (de_ix (de_ixN (pv 0) de_int (fun _ _ => rfl)) (de_var (pv 7)) (fun _ _ => rfl))) (de_ix (de_ixN (pv 1) de_int (fun _ _ => rfl)) (de_var (pv 8)) (fun _ _ => rfl))) pa_nil))))))))))
    (dss_one (ds_ret (de_tup (da_cons (de_callTy snd_tuple call_tuple_of (by rfl) T.n_tuple (by decide +kernel) (da_cons (de_var (pv 4)) da_nil)) (da_cons (de_callTy snd_tuple call_tuple_of (by rfl) T.n_tuple (by decide +kernel) (da_cons (de_var (pv 5)) da_nil)) da_nil)))))))
theorem dss_law_machine (T : Txt K mg) (G_law_pick : ok_law_pick P w base T) (G_law_draw : ok_law_draw P w base T) (G_law_any : ok_law_any P w base T) (G_law_growing : ok_law_growing P w base T) (G_law_known : ok_law_known P w base T) (G_law_names : ok_law_names P w base T) (G_law_bent : ok_law_bent P w base T) (G_law_both : ok_law_both P w base T) (G_law_by_length : ok_law_by_length P w base T) {cdv : Value} {A : Around} {outer : List Env} {s : Shared} {H : Hp} {E : XK} {B : Bs} (hr : Room 3 (A.deeper (envOfC "_law_machine" (defScope s_law_machine) s.heap.objs.size T.a_law_machine cdv))) :
    DSs (cxOf CX0 P w K mg base N_law_machine "_law_machine" (defScope s_law_machine) T.a_law_machine cdv A outer s H E).nox B (defBody s_law_machine) wb_law_machine :=
  (dss_cons (ds_par3 (i := 4) (j := 5) (l := 6) (ps_par3 rfl sc_law_machine.nd rfl rfl rfl (by decide) (by decide) (by decide) rfl rfl rfl (da_cons (de_call (pe_call G_law_pick (hr.mono (by decide)) (by rfl) T.g_law_pick T.F_law_pick.kp T.b_law_pick .nil pass0 (da_cons (de_var (pv 0)) (da_cons (de_lst (da_cons de_int (da_cons de_int (da_cons de_int (da_cons de_int (da_cons de_int (da_cons de_int da_nil))))))) da_nil)))) (da_cons (de_add de_int (de_call (pe_call G_law_draw (hr.mono (by decide)) (by rfl) T.g_law_draw T.F_law_draw.kp T.b_law_draw .nil pass0 (da_cons (de_var (pv 0)) (da_cons de_int da_nil))))) (da_cons (de_call (pe_call G_law_pick (hr.mono (by decide)) (by rfl) T.g_law_pick T.F_law_pick.kp T.b_law_pick .nil pass0 (da_cons (de_var (pv 0)) (da_cons (de_lst (da_cons de_int (da_cons de_int (da_cons de_int da_nil)))) da_nil)))) da_nil))) (by rfl)))
    (dss_cons (ds_set (ps_set (i := 1) sc_law_machine.nd rfl (Or.inl rfl) (de_call (pe_call G_law_draw (hr.mono (by decide)) (by rfl) T.g_law_draw T.F_law_draw.kp T.b_law_draw .nil pass0 (da_cons (de_var (pv 0)) (da_cons de_int da_nil))))))
    (dss_cons (ds_if (dt_lt (de_var (pv 1)) de_int) (dss_one (ds_ret (de_call (pe_call G_law_any (hr.mono (by decide)) (by rfl) T.g_law_any T.F_law_any.kp T.b_law_any .nil pass0 (da_cons (de_var (pv 0)) (da_cons (de_if (dt_bool (dw_or (dt_eq hr.units (de_var (pv 4)) de_int) (dw_or1 (dt_eq hr.units (de_call (pe_call G_law_draw (hr.mono (by decide)) (by rfl) T.g_law_draw T.F_law_draw.kp T.b_law_draw .nil pass0 (da_cons (de_var (pv 0)) (da_cons de_int da_nil)))) de_int)))) (de_callB snd_mm (call_min2 rfl) (by rfl) T.n_min (by decide +kernel) (da_cons de_int (da_cons (de_var (pv 5)) da_nil))) (de_var (pv 5))) (da_cons (de_var (pv 4)) (da_cons (de_var (pv 6)) da_nil)))))))) dss_nil)
    (dss_cons (ds_if (dt_lt (de_var (pv 1)) de_int) (dss_one (ds_ret (de_call (pe_call G_law_growing (hr.mono (by decide)) (by rfl) T.g_law_growing T.F_law_growing.kp T.b_law_growing .nil pass0 (da_cons (de_var (pv 0)) (da_cons (de_var (pv 5)) (da_cons (de_var (pv 4)) (da_cons (de_var (pv 6)) da_nil)))))))) dss_nil)
    (dss_cons (ds_set (ps_set (i := 2) sc_law_machine.nd rfl (Or.inl rfl) (de_call (pe_call G_law_known (hr.mono (by decide)) (by rfl) T.g_law_known T.F_law_known.kp T.b_law_known .nil pass0 (da_cons (de_call (pe_call G_law_pick (hr.mono (by decide)) (by rfl) T.g_law_pick T.F_law_pick.kp T.b_law_pick .nil pass0 (da_cons (de_var (pv 0)) (da_cons (de_call0 (pe_call0 G_law_names (hr.mono (by decide)) (by rfl) T.g_law_names T.F_law_names.kp T.b_law_names .nil pass0)) da_nil)))) (da_cons (de_var (pv 4)) da_nil))))))
    (dss_cons (ds_if (dt_eq hr.units (de_var (pv 1)) de_int) (dss_one (ds_ret (de_var (pv 2)))) dss_nil)
    (dss_cons (ds_if (dt_eq hr.units (de_var (pv 1)) de_int) (dss_one (ds_ret (de_call (pe_call G_law_bent (hr.mono (by decide)) (by rfl) T.g_law_bent T.F_law_bent.kp T.b_law_bent .nil pass0 (da_cons (de_var (pv 0)) (da_cons (de_var (pv 2)) da_nil)))))) dss_nil)
    (dss_cons (ds_set (ps_set (i := 3) sc_law_machine.nd rfl (Or.inl rfl) (de_call (pe_call G_law_known (hr.mono (by decide)) (by rfl) T.g_law_known T.F_law_known.kp T.b_law_known .nil pass0 (da_cons (de_call (pe_call G_law_pick (hr.mono (by decide)) (by rfl) T.g_law_pick T.F_law_pick.kp T.b_law_pick .nil pass0 (da_cons (de_var (pv 0)) (da_cons (de_lst (da_cons de_str (da_cons de_str (da_cons de_str (da_cons de_str da_nil))))) da_nil)))) (da_cons (de_var (pv 4)) da_nil))))))
    (dss_cons (ds_if (dt_bool (dw_or (dt_eq hr.units (de_var (pv 1)) de_int) (dw_or1 (dt_bool (dw_and (dt_eq hr.units (de_var (pv 1)) de_int) (dw_and1 (dt_gt (de_mul (de_callB snd_len call_len (by rfl) T.n_len PySem.boot_len (da_cons (de_ixN (pv 2) de_int (fun _ _ => rfl)) da_nil)) (de_callB snd_len call_len (by rfl) T.n_len PySem.boot_len (da_cons (de_ixN (pv 3) de_int (fun _ _ => rfl)) da_nil))) de_int))))))) (dss_one (ds_ret (de_call (pe_call G_law_both (hr.mono (by decide)) (by rfl) T.g_law_both T.F_law_both.kp T.b_law_both .nil pass0 (da_cons (de_var (pv 2)) (da_cons (de_var (pv 3)) da_nil)))))) dss_nil)
    (dss_cons (ds_if (dt_eq hr.units (de_var (pv 1)) de_int) (dss_one (ds_ret (de_call (pe_call G_law_by_length (hr.mono (by decide)) (by rfl) T.g_law_by_length T.F_law_by_length.kp T.b_law_by_length .nil pass0 (da_cons (de_var (pv 2)) (da_cons (de_var (pv 3)) da_nil)))))) dss_nil)
    (dss_one (ds_ret (de_call (pe_call G_law_by_length (hr.mono (by decide)) (by rfl) T.g_law_by_length T.F_law_by_length.kp T.b_law_by_length .nil pass0 (da_cons (de_call (pe_call G_law_any (hr.mono (by decide)) (by rfl) T.g_law_any T.F_law_any.kp T.b_law_any .nil pass0 (da_cons (de_var (pv 0)) (da_cons (de_add de_int (de_call (pe_call G_law_draw (hr.mono (by decide)) (by rfl) T.g_law_draw T.F_law_draw.kp T.b_law_draw .nil pass0 (da_cons (de_var (pv 0)) (da_cons de_int da_nil))))) (da_cons (de_var (pv 4)) (da_cons de_int da_nil)))))) (da_cons (de_call (pe_call G_law_bent (hr.mono (by decide)) (by rfl) T.g_law_bent T.F_law_bent.kp T.b_law_bent .nil pass0 (da_cons (de_var (pv 0)) (da_cons (de_var (pv 3)) da_nil)))) da_nil))))))))))))))))
theorem dss_law_great (T : Txt K mg) (G_law_draw : ok_law_draw P w base T) {cdv : Value} {A : Around} {outer : List Env} {s : Shared} {H : Hp} {E : XK} {B : Bs} (hr : Room 1 (A.deeper (envOfC "_law_great" (defScope s_law_great) s.heap.objs.size T.a_law_great cdv))) :
    DSs (cxOf CX0 P w K mg base N_law_great "_law_great" (defScope s_law_great) T.a_law_great cdv A outer s H E).nox B (defBody s_law_great) wb_law_great :=
  (dss_cons (ds_par2 (i := 4) (j := 5) (ps_par rfl sc_law_great.nd rfl rfl (by decide) rfl rfl (da_cons (de_add de_int (de_call (pe_call G_law_draw (hr.mono (by decide)) (by rfl) T.g_law_draw T.F_law_draw.kp T.b_law_draw .nil pass0 (da_cons (de_var (pv 0)) (da_cons de_int da_nil))))) (da_cons (de_and (de_gt (de_var (pv 1)) de_int) (de_one (de_eq hr.units (de_call (pe_call G_law_draw (hr.mono (by decide)) (by rfl) T.g_law_draw T.F_law_draw.kp T.b_law_draw .nil pass0 (da_cons (de_var (pv 0)) (da_cons de_int da_nil)))) de_int))) da_nil)) (by rfl)))
    (dss_cons (ds_set (ps_set (i := 2) sc_law_great.nd rfl (Or.inl rfl) (de_lst da_nil)))
    (dss_cons (ds_for PassesOwn.never rfl (di_r1 (by rfl) T.n_range (da_cons (de_var (pv 4)) da_nil)) (dg_name (pg_name (i := 3) sc_law_great.nd rfl (Or.inl rfl))) (dss_cons (ds_set (ps_set (i := 6) sc_law_great.nd rfl (Or.inl rfl) (de_mod (de_callTy snd_int call_int1 (by rfl) T.n_int (by decide +kernel) (da_cons (de_add (de_var (pv 3)) de_int) da_nil)) (de_var (pv 4)))))
    (dss_one (ds_expr (de_app (pe_bm PySem.F.plainAttrs_list PySem.F.slot_list_append PySem.F.type_list_append mt_append (pv 2) (pa_cons (de_add (de_mul (de_tup (da_cons (de_var (pv 6)) da_nil)) (de_sub (de_var (pv 1)) de_int)) (de_tup (da_cons (de_if (dt_val (de_var (pv 5))) de_int (de_var (pv 6))) da_nil))) pa_nil)))))))
    (dss_one (ds_ret (de_tup (da_cons (de_callTy snd_tuple call_tuple_of (by rfl) T.n_tuple (by decide +kernel) (da_cons (de_var (pv 2)) da_nil)) (da_cons (de_callTy snd_tuple call_tuple_of (by rfl) T.n_tuple (by decide +kernel) (da_cons (de_lc (own := [("state", 3)]) (vs := [3]) rfl (by simp) (pe_lc (own := [("state", 3)]) rfl sc_law_great.nd (di_r1 (by rfl) T.n_range (da_cons (de_var (pv 4)) da_nil)) (blkOk_by (own := [("state", 3)]) (N := N_law_great) (sc := defScope s_law_great) (by decide +kernel)) (fun _ _ _ _ _ => (dg_name (pg_name (i := 3) sc_law_great.nd rfl (Or.inl rfl)))) (fun _ _ _ _ _ => dts_nil) (fun _ _ _ _ _ => (de_call (pe_call G_law_draw (hr.mono (by decide)) (by rfl) T.g_law_draw T.F_law_draw.kp T.b_law_draw .nil pass0 (da_cons (de_var (pv 0)) (da_cons de_int da_nil))))))) da_nil)) da_nil))))))))
theorem dss_law_split (T : Txt K mg) (G_law_draw : ok_law_draw P w base T) (G_law_pick : ok_law_pick P w base T) {cdv : Value} {A : Around} {outer : List Env} {s : Shared} {H : Hp} {E : XK} {B : Bs} (hr : Room 2 (A.deeper (envOfC "_law_split" (defScope s_law_split) s.heap.objs.size T.a_law_split cdv))) :
    DSs (cxOf CX0 P w K mg base N_law_split "_law_split" (defScope s_law_split) T.a_law_split cdv A outer s H E).nox B (defBody s_law_split) wb_law_split :=
  (dss_cons (ds_asg (ps_asg (de_var (pv 1)) (dg_tup (pg_tup rfl (dgs_cons (dg_name (pg_name (i := 8) sc_law_split.nd rfl (Or.inr rfl))) (dgs_cons (dg_name (pg_name (i := 9) sc_law_split.nd rfl (Or.inr rfl))) dgs_nil (pgs_cons (dg_name (pg_name (i := 9) sc_law_split.nd rfl (Or.inr rfl))) dgs_nil)) (pgs_cons (dg_name (pg_name (i := 8) sc_law_split.nd rfl (Or.inr rfl))) (dgs_cons (dg_name (pg_name (i := 9) sc_law_split.nd rfl (Or.inr rfl))) dgs_nil (pgs_cons (dg_name (pg_name (i := 9) sc_law_split.nd rfl (Or.inr rfl))) dgs_nil))))))))
    (dss_cons (ds_par2c (ps_asg (pe_tup (da_cons (de_listR1 rfl (by rfl) T.n_list (by rfl) T.n_range (de_lenN (pv 8) (by rfl) T.n_len)) (da_cons (de_lst da_nil) da_nil))) (pg_tup rfl (pgs_cons (pg_name (i := 5) sc_law_split.nd rfl (Or.inr rfl)) (pgs_cons (pg_name (i := 10) sc_law_split.nd rfl (Or.inr rfl)) pgs_nil)))))
    (dss_cons (ds_for PassesOwn.never rfl (di_r1 (by rfl) T.n_range (da_cons (de_sub (de_var (pv 2)) (de_lenN (pv 8) (by rfl) T.n_len)) da_nil)) (dg_name (pg_name (i := 3) sc_law_split.nd rfl (Or.inl rfl))) (dss_one (ds_expr (de_app (pe_bm PySem.F.plainAttrs_list PySem.F.slot_list_append PySem.F.type_list_append mt_append (pv 5) (pa_cons (de_call (pe_call G_law_draw (hr.mono (by decide)) (by rfl) T.g_law_draw T.F_law_draw.kp T.b_law_draw .nil pass0 (da_cons (de_var (pv 0)) (da_cons (de_lenN (pv 8) (by rfl) T.n_len) da_nil)))) pa_nil))))))
    (dss_cons (ds_set (ps_set (i := 4) sc_law_split.nd rfl (Or.inl rfl) (de_slice (de_var (pv 5)) (do_some de_int) do_none)))
    (dss_cons (ds_set (ps_set (i := 5) sc_law_split.nd rfl (Or.inr rfl) (de_lst (da_cons de_int da_nil))))
    (dss_cons (ds_for PassesOwn.never rfl (di_r1 (by rfl) T.n_range (da_cons (de_lenN (pv 4) (by rfl) T.n_len) da_nil)) (dg_name (pg_name (i := 3) sc_law_split.nd rfl (Or.inl rfl))) (dss_one (ds_expr (de_app (pe_bm PySem.F.plainAttrs_list PySem.F.slot_list_append PySem.F.type_list_append mt_append (pv 5) (pa_cons (de_pop (pe_bm PySem.F.plainAttrs_list PySem.F.slot_list_pop PySem.F.type_list_pop mt_popAt (pv 4) (pa_cons (de_call (pe_call G_law_draw (hr.mono (by decide)) (by rfl) T.g_law_draw T.F_law_draw.kp T.b_law_draw .nil pass0 (da_cons (de_var (pv 0)) (da_cons (de_lenN (pv 4) (by rfl) T.n_len) da_nil)))) pa_nil))) pa_nil))))))
    (dss_cons (ds_for PassesOwn.never rfl (di_r1 (by rfl) T.n_range (da_cons (de_lenN (pv 8) (by rfl) T.n_len) da_nil)) (dg_name (pg_name (i := 6) sc_law_split.nd rfl (Or.inr rfl))) (dss_one (ds_expr (de_app (pe_bm PySem.F.plainAttrs_list PySem.F.slot_list_append PySem.F.type_list_append mt_append (pv 10) (pa_cons (de_lc (own := [("place", 11)]) (vs := [11]) rfl (by simp) (pe_lc (own := [("place", 11)]) rfl sc_law_split.nd (di_r1 (by rfl) T.n_range (da_cons (de_lenN (pv 5) (by rfl) T.n_len) da_nil)) (blkOk_by (own := [("place", 11)]) (N := N_law_split) (sc := defScope s_law_split) (by decide +kernel)) (fun _ _ _ _ _ => (dg_name (pg_name (i := 11) sc_law_split.nd rfl (Or.inl rfl)))) (fun _ _ _ _ _ => (dts_one (dt_eq hr.units (de_ixN (pv 5) (de_var (pv 11)) (fun _ _ => rfl)) (de_var (pv 6))))) (fun _ _ _ _ _ => (de_var (pv 11))))) pa_nil))))))
    (dss_cons (ds_setLc (own := [("state", 6)]) (vs := [6]) rfl (by simp) (ps_setLc (i := 7) (own := [("state", 6)]) rfl sc_law_split.nd rfl rfl (sw_true rfl rfl rfl (by decide +kernel)) (di_seq (de_var (pv 5))) (blkOk_by (own := [("state", 6)]) (N := N_law_split) (sc := defScope s_law_split) (by decide +kernel)) (fun _ _ _ _ _ => (dg_name (pg_name (i := 6) sc_law_split.nd rfl (Or.inl rfl)))) (fun _ _ _ _ _ => dts_nil) (fun _ _ _ _ _ => (de_callTy snd_tuple call_tuple_of (by rfl) T.n_tuple (by decide +kernel) (da_cons (de_lc (own := [("goal", 12)]) (vs := [12]) rfl (by simp) (pe_lc (own := [("goal", 12)]) rfl sc_law_split.nd (di_seq (de_ixN (pv 8) (de_var (pv 6)) (fun _ _ => rfl))) (blkOk_by (own := [("goal", 12)]) (N := N_law_split) (sc := relS _ (defScope s_law_split)) (by decide +kernel)) (fun _ _ _ _ _ => (dg_name (pg_name (i := 12) sc_law_split.nd rfl (Or.inl rfl)))) (fun _ _ _ _ _ => dts_nil) (fun _ _ _ _ _ => (de_call (pe_call G_law_pick (hr.mono (by decide)) (by rfl) T.g_law_pick T.F_law_pick.kp T.b_law_pick .nil pass0 (da_cons (de_var (pv 0)) (da_cons (de_ixN (pv 10) (de_var (pv 12)) (fun _ _ => rfl)) da_nil))))))) da_nil)))))
    (dss_one (ds_ret (de_tup (da_cons (de_callTy snd_tuple call_tuple_of (by rfl) T.n_tuple (by decide +kernel) (da_cons (de_var (pv 7)) da_nil)) (da_cons (de_callTy snd_tuple call_tuple_of (by rfl) T.n_tuple (by decide +kernel) (da_cons (de_lc (own := [("state", 6)]) (vs := [6]) rfl (by simp) (pe_lc (own := [("state", 6)]) rfl sc_law_split.nd (di_seq (de_var (pv 5))) (blkOk_by (own := [("state", 6)]) (N := N_law_split) (sc := defScope s_law_split) (by decide +kernel)) (fun _ _ _ _ _ => (dg_name (pg_name (i := 6) sc_law_split.nd rfl (Or.inl rfl)))) (fun _ _ _ _ _ => dts_nil) (fun _ _ _ _ _ => (de_ixN (pv 9) (de_var (pv 6)) (fun _ _ => rfl))))) da_nil)) da_nil)))))))))))))
theorem dss_law_wide (T : Txt K mg) (G_law_split : ok_law_split P w base T) (G_law_pick : ok_law_pick P w base T) (G_law_draw : ok_law_draw P w base T) {cdv : Value} {A : Around} {outer : List Env} {s : Shared} {H : Hp} {E : XK} {B : Bs} (hr : Room 3 (A.deeper (envOfC "_law_wide" (defScope s_law_wide) s.heap.objs.size T.a_law_wide cdv))) :
    DSs (cxOf CX0 P w K mg base N_law_wide "_law_wide" (defScope s_law_wide) T.a_law_wide cdv A outer s H E).nox B (defBody s_law_wide) wb_law_wide :=
  (dss_cons (ds_set (ps_set (i := 2) sc_law_wide.nd rfl (Or.inl rfl) (de_sub de_int (de_callB snd_len call_len (by rfl) T.n_len PySem.boot_len (da_cons (de_ixN (pv 1) de_int (fun _ _ => rfl)) da_nil)))))
    (dss_one (ds_ret (de_call (pe_call G_law_split (hr.mono (by decide)) (by rfl) T.g_law_split T.F_law_split.kp T.b_law_split .nil pass0 (da_cons (de_var (pv 0)) (da_cons (de_var (pv 1)) (da_cons (de_add (de_callB snd_len call_len (by rfl) T.n_len PySem.boot_len (da_cons (de_ixN (pv 1) de_int (fun _ _ => rfl)) da_nil)) (de_call (pe_call G_law_pick (hr.mono (by decide)) (by rfl) T.g_law_pick T.F_law_pick.kp T.b_law_pick .nil pass0 (da_cons (de_var (pv 0)) (da_cons (de_lst (da_cons de_int (da_cons (de_var (pv 2)) (da_cons (de_call (pe_call G_law_draw (hr.mono (by decide)) (by rfl) T.g_law_draw T.F_law_draw.kp T.b_law_draw .nil pass0 (da_cons (de_var (pv 0)) (da_cons (de_add (de_var (pv 2)) de_int) da_nil)))) da_nil)))) da_nil))))) da_nil))))))))
theorem dss_law_text (T : Txt K mg)  {cdv : Value} {A : Around} {outer : List Env} {s : Shared} {H : Hp} {E : XK} {B : Bs} (hr : Room 0 (A.deeper (envOfC "_law_text" (defScope s_law_text) s.heap.objs.size T.a_law_text cdv))) :
    DSs (cxOf CX0 P w K mg base N_law_text "_law_text" (defScope s_law_text) T.a_law_text cdv A outer s H E).nox B (defBody s_law_text) wb_law_text :=
  (dss_cons (ds_set (ps_set (i := 1) sc_law_text.nd rfl (Or.inl rfl) (de_lst da_nil)))
    (dss_cons (ds_for PassesOwn.never rfl (di_zip (pi_zipA (by rfl) T.n_zip (da_cons (de_ixN (pv 0) de_int (fun _ _ => rfl)) (da_cons (de_ixN (pv 0) de_int (fun _ _ => rfl)) da_nil)))) (dg_tup (pg_tup rfl (dgs_cons (dg_name (pg_name (i := 2) sc_law_text.nd rfl (Or.inl rfl))) (dgs_cons (dg_name (pg_name (i := 3) sc_law_text.nd rfl (Or.inl rfl))) dgs_nil (pgs_cons (dg_name (pg_name (i := 3) sc_law_text.nd rfl (Or.inl rfl))) dgs_nil)) (pgs_cons (dg_name (pg_name (i := 2) sc_law_text.nd rfl (Or.inl rfl))) (dgs_cons (dg_name (pg_name (i := 3) sc_law_text.nd rfl (Or.inl rfl))) dgs_nil (pgs_cons (dg_name (pg_name (i := 3) sc_law_text.nd rfl (Or.inl rfl))) dgs_nil)))))) (dss_one (ds_expr (de_app (pe_bm PySem.F.plainAttrs_list PySem.F.slot_list_append PySem.F.type_list_append mt_append (pv 1) (pa_cons (de_addS (de_addS (de_m1 snd_join PySem.F.slot_str_join PySem.F.type_str_join mt_join de_str (de_lc (own := [("goal", 4)]) (vs := [4]) rfl (by simp) (pe_lc (own := [("goal", 4)]) rfl sc_law_text.nd (di_seq (de_var (pv 2))) (blkOk_by (own := [("goal", 4)]) (N := N_law_text) (sc := defScope s_law_text) (by decide +kernel)) (fun _ _ _ _ _ => (dg_name (pg_name (i := 4) sc_law_text.nd rfl (Or.inl rfl)))) (fun _ _ _ _ _ => dts_nil) (fun _ _ _ _ _ => (de_callTy snd_strI call_str_int (by rfl) T.n_str (by decide +kernel) (da_cons (de_var (pv 4)) da_nil)))))) de_str) (de_callTy snd_strI call_str_int (by rfl) T.n_str (by decide +kernel) (da_cons (de_var (pv 3)) da_nil))) pa_nil))))))
    (dss_one (ds_ret (de_m1 snd_join PySem.F.slot_str_join PySem.F.type_str_join mt_join de_str (de_var (pv 1)))))))
theorem dss_law (T : Txt K mg) (G_law_bag : ok_law_bag P w base T) (G_law_great : ok_law_great P w base T) (G_law_draw : ok_law_draw P w base T) (G_law_machine : ok_law_machine P w base T) (G_law_wide : ok_law_wide P w base T) (G_law_any : ok_law_any P w base T) (G_law_bent : ok_law_bent P w base T) (G_teller_text : ok_teller_text P w base T) (G_law_text : ok_law_text P w base T) (G_read_teller : ok_read_teller P w base T) {cdv : Value} {A : Around} {outer : List Env} {s : Shared} {H : Hp} {E : XK} {B : Bs} (hr : Room 4 (A.deeper (envOfC "law" (defScope s_law) s.heap.objs.size T.a_law cdv))) (hg : (A.deeper (envOfC "law" (defScope s_law) s.heap.objs.size T.a_law cdv)).guards = some []) :
    DSs (cxOf CX0 P w K mg base N_law "law" (defScope s_law) T.a_law cdv A outer s H E).nox B (defBody s_law) wb_law :=
  (dss_cons (ds_set (ps_set (i := 1) sc_law.nd rfl (Or.inl rfl) (de_call (pe_call G_law_bag (hr.mono (by decide)) (by rfl) T.g_law_bag T.F_law_bag.kp T.b_law_bag .nil pass0 (da_cons (de_var (pv 0)) da_nil)))))
    (dss_cons (ds_par2 (i := 6) (j := 7) (ps_par rfl sc_law.nd rfl rfl (by decide) rfl rfl (da_cons (de_call (pe_call G_law_machine (hr.mono (by decide)) (by rfl) T.g_law_machine T.F_law_machine.kp T.b_law_machine .nil pass0 (da_cons (de_var (pv 1)) da_nil))) (da_cons (de_call (pe_call G_law_great (hr.mono (by decide)) (by rfl) T.g_law_great T.F_law_great.kp T.b_law_great .nil pass0 (da_cons (de_var (pv 1)) (da_cons (de_add de_int (de_call (pe_call G_law_draw (hr.mono (by decide)) (by rfl) T.g_law_draw T.F_law_draw.kp T.b_law_draw .nil pass0 (da_cons (de_var (pv 1)) (da_cons de_int da_nil))))) da_nil)))) da_nil)) (by rfl)))
    (dss_cons (ds_set (ps_set (i := 2) sc_law.nd rfl (Or.inl rfl) (de_call (pe_call G_law_wide (hr.mono (by decide)) (by rfl) T.g_law_wide T.F_law_wide.kp T.b_law_wide .nil pass0 (da_cons (de_var (pv 1)) (da_cons (de_var (pv 6)) da_nil))))))
    (dss_cons (ds_set (ps_set (i := 3) sc_law.nd rfl (Or.inl rfl) (de_call (pe_call G_law_any (hr.mono (by decide)) (by rfl) T.g_law_any T.F_law_any.kp T.b_law_any .nil pass0 (da_cons (de_var (pv 1)) (da_cons (de_add de_int (de_call (pe_call G_law_draw (hr.mono (by decide)) (by rfl) T.g_law_draw T.F_law_draw.kp T.b_law_draw .nil pass0 (da_cons (de_var (pv 1)) (da_cons de_int da_nil))))) (da_cons (de_add de_int (de_call (pe_call G_law_draw (hr.mono (by decide)) (by rfl) T.g_law_draw T.F_law_draw.kp T.b_law_draw .nil pass0 (da_cons (de_var (pv 1)) (da_cons de_int da_nil))))) (da_cons de_int da_nil))))))))
    (dss_cons (ds_set (ps_set (i := 4) sc_law.nd rfl (Or.inl rfl) (de_lst (da_cons (de_var (pv 6)) (da_cons (de_var (pv 2)) (da_cons (de_var (pv 7)) (da_cons (de_call (pe_call G_law_bent (hr.mono (by decide)) (by rfl) T.g_law_bent T.F_law_bent.kp T.b_law_bent .nil pass0 (da_cons (de_var (pv 1)) (da_cons (de_var (pv 2)) da_nil)))) (da_cons (de_var (pv 3)) (da_cons (de_call (pe_call G_law_bent (hr.mono (by decide)) (by rfl) T.g_law_bent T.F_law_bent.kp T.b_law_bent .nil pass0 (da_cons (de_var (pv 1)) (da_cons (de_var (pv 7)) da_nil)))) (da_cons (de_var (pv 6)) da_nil))))))))))
    (dss_cons (ds_for PassesOwn.never rfl (di_seq (de_var (pv 4))) (dg_name (pg_name (i := 5) sc_law.nd rfl (Or.inl rfl))) (dss_cons (ds_set (ps_set (i := 8) sc_law.nd rfl (Or.inl rfl) (de_call (pe_call G_teller_text (hr.mono (by decide)) (by rfl) T.g_teller_text T.F_teller_text.kp T.b_teller_text .nil pass0 (da_cons (de_var (pv 5)) da_nil)))))
    (dss_one (ds_if (dt_bool (dw_or (dt_ne hr.units (de_reprN hg (Nat.lt_of_succ_lt (hu65_of hr)) (pv 8) (by rfl) T.n_repr) (de_callB snd_reprR (call_reprR hg (Nat.lt_of_succ_lt (hu65_of hr))) (by rfl) T.n_repr (by decide +kernel) (da_cons (de_call (pe_call G_law_text (hr.mono (by decide)) (by rfl) T.g_law_text T.F_law_text.kp T.b_law_text .nil pass0 (da_cons (de_var (pv 5)) da_nil))) da_nil))) (dw_or1 (dt_ne hr.units (de_callB snd_reprR (call_reprR hg (Nat.lt_of_succ_lt (hu65_of hr))) (by rfl) T.n_repr (by decide +kernel) (da_cons (de_call (pe_call G_read_teller (hr.mono (by decide)) (by rfl) T.g_read_teller T.F_read_teller.kp T.b_read_teller .nil pass0 (da_cons (de_var (pv 8)) da_nil))) da_nil)) (de_reprN hg (Nat.lt_of_succ_lt (hu65_of hr)) (pv 5) (by rfl) T.n_repr))))) (dss_one (ds_ret de_bl)) dss_nil))))
    (dss_cons (ds_for PassesOwn.never rfl (di_seq (de_slice (de_var (pv 4)) (do_some de_int) (do_some de_int))) (dg_name (pg_name (i := 5) sc_law.nd rfl (Or.inl rfl))) (dss_one (ds_if (dt_ne hr.units (de_callB snd_reprR (call_reprR hg (Nat.lt_of_succ_lt (hu65_of hr))) (by rfl) T.n_repr (by decide +kernel) (da_cons (de_call (pe_call G_read_teller (hr.mono (by decide)) (by rfl) T.g_read_teller T.F_read_teller.kp T.b_read_teller .nil pass0 (da_cons (de_call (pe_call G_law_text (hr.mono (by decide)) (by rfl) T.g_law_text T.F_law_text.kp T.b_law_text .nil pass0 (da_cons (de_var (pv 5)) da_nil))) da_nil))) da_nil)) (de_reprN hg (Nat.lt_of_succ_lt (hu65_of hr)) (pv 5) (by rfl) T.n_repr)) (dss_one (ds_ret de_bl)) dss_nil)))
    (dss_one (ds_ret de_bl)))))))))
end
end Ly.K7

namespace Ly.K7
open PySem PySem.Spec PyProof.Rows L2
theorem dp_ints {K : PySem.W.Frag} {H : Hp} : ∀ ns : List Int, DpAll K H (ns.map V.int) (ns.map PyData.int)
  | [] => .nil
  | _ :: r => .cons (.int _) (dp_ints r)
theorem lay_ints : ∀ ns : List Int, PyData.canLayAll0 (ns.map PyData.int) = true
  | [] => rfl
  | _ :: r => by simp only [List.map_cons, PyData.canLayAll0, PyData.canLay0, lay_ints r]; rfl
theorem dep_ints : ∀ ns : List Int, PyData.depthAll (ns.map PyData.int) = 0
  | [] => rfl
  | _ :: r => by simp only [List.map_cons, PyData.depthAll, PyData.depth, dep_ints r]; rfl
theorem shaped_ints (ns : List Int) : SeqAt.shaped (.list (ns.map PyData.int)) = true := by
  unfold SeqAt.shaped
  simp only [PyData.canLay0, PyData.depth, lay_ints, dep_ints]
  rfl
theorem eqv_nil (ns : List Int) : PyData.eqv (.list (ns.map PyData.int)) (.list []) = ns.isEmpty := by
  cases ns <;> simp [PyData.eqv, PyData.eqvAll]
theorem v_far {x y z : V} : valV [(kFar, x), (kStir, y), (kTurn, z)] kFar = some x := rfl
theorem v_stir {x y z : V} : valV [(kFar, x), (kStir, y), (kTurn, z)] kStir = some y := rfl
theorem v_turn {x y z : V} : valV [(kFar, x), (kStir, y), (kTurn, z)] kTurn = some z := rfl
theorem p_turn {x y z v : V} : putK [(kFar, x), (kStir, y), (kTurn, z)] kTurn v = [(kFar, x), (kStir, y), (kTurn, v)] := rfl
theorem p_stir {x y z v : V} : putK [(kFar, x), (kStir, y), (kTurn, z)] kStir v = [(kFar, x), (kStir, v), (kTurn, z)] := rfl
/-- behind a draw -/
theorem draw_fin {G : Gh} {H H' : Hp} {n : Nat} {a b : Addr} {far : List Int} {sr t : Int} {o1 : List Int} {kv : List (Key × V)} (g : G0Ok G H n) (ga : G a = .bagd b) (gb : G b = .bagl a)
    (ha0 : H a = some (.dK kv)) (hb0 : H b = some (.lst (o1.map V.int)))
    (keep : ∀ c o, H c = some o → c ≠ a → c ≠ b → H' c = some o) (ha : H' a = some (.dK [(kFar, .ref b), (kStir, .int sr), (kTurn, .int t)])) (hb : H' b = some (.lst (far.map V.int)))
    (hf : far.length ≤ 63) (h0 : 0 ≤ sr) (h1 : sr < 4294967291) (h2 : 0 ≤ t) (h3 : t ≤ n + 1) (nn : ∀ c, H' c = none → H c = none) :
    Gr G H G H' ∧ (∀ c d, G c = .bagd d → BagOk G H' (n + 1) c d) ∧ ∀ c, H' c = none → G c = .free := by
  refine ⟨⟨fun c o q q1 q2 => ⟨keep c o q (fun z => q1 b (z ▸ ga)) (fun z => q2 a (z ▸ gb)), rfl⟩, fun _ _ q => q, fun _ _ q => q, fun c xs q => keep c _ q (ne_of q ha0 (by simp)) (ne_of q hb0 (by simp)), fun c o u q => keep c _ q (ne_of q ha0 (by simp)) (ne_of q hb0 (by simp))⟩, fun c d q => ?_, fun c q => g.fh c (nn c q)⟩
  by_cases hc : c = a
  · subst hc
    rw [ga] at q
    cases q
    exact ⟨gb, far, sr, t, ha, hb, hf, h0, h1, h2, by omega⟩
  · obtain ⟨gd, far', s', t', hcc, hdd, z1, z2, z3, z4, z5⟩ := g.bg c d q
    have hcb : c ≠ b := fun z => by subst z; rw [gb] at q; cases q
    have hda : d ≠ a := fun z => by subst z; rw [ga] at gd; cases gd
    have hdb : d ≠ b := fun z => by subst z; rw [gb] at gd; cases gd; exact hc rfl
    exact ⟨gd, far', s', t', keep c _ hcc hc hcb, keep d _ hdd hda hdb, z1, z2, z3, z4, by omega⟩
section
variable {P : Program} {w : World} {K : PySem.W.Frag} {mg : Str → Option Value} {base : Heap}
theorem ok_draw (T : Txt K mg) : ok_law_draw P w base T := by
  refine T.F_law_draw.ok sc_law_draw (fun vs H Q E ⟨G, ds, n, Q', g, hl, rl, hc, hq⟩ => by rw [rl.length, hl]; rfl) (fun cdv A outer s H vs Q E hr ⟨G, ds, n, Q', g, hl, rl, h1, hq⟩ => ?_)
  have hu := hu_of hr
  obtain ⟨a, m, rfl, m1, m2, hb, hret⟩ := h1
  cases rl with
  | cons ra rl =>
  cases rl with
  | cons rm rl =>
  cases rl
  cases ra with
  | @bag _ b ga =>
  cases rm
  obtain ⟨gb, far, sr, t, ha, hbb, hfl, hs0, hs1, ht0, ht1⟩ := g.bg a b ga
  refine ⟨_, pss_cons (ps_set (i := 2) sc_law_draw.nd rfl (Or.inl rfl) (pe_dget hu (pv 0) pe_str (fun _ _ => rfl)))
    (pss_cons (ps_if (pt_cmpR (op_neD hr.units) (pv 2) (pe_lst pa_nil) (nomark _))
      (pss_cons (ps_set (i := 5) sc_law_draw.nd rfl (Or.inl rfl) (pe_bm PySem.F.plainAttrs_list PySem.F.slot_list_pop PySem.F.type_list_pop mt_popAt (pv 2) (pa_cons pe_int pa_nil)))
      (pss_cons (ps_if (pt_cmpR op_ge (pv 5) (pv 1) (nomark _)) (pss_one (ps_expr (pe_bm PySem.F.plainAttrs_list PySem.F.slot_list_insert PySem.F.type_list_insert mt_insert (pv 2) (pa_cons pe_int (pa_cons (pe_op op_fdivN (pv 5) (pv 1)) pa_nil))))) pss_nil)
      (pss_one (ps_ret (pe_op op_modN (pe_callTy call_int1 (by rfl) T.n_int (by decide +kernel) (pa_cons (pv 5) pa_nil)) (pv 1)))))) pss_nil)
    (pss_cons (ps_dput hu (pv 0) pe_str (pe_op op_add (pe_dget hu (pv 0) pe_str (fun _ _ => rfl)) pe_int) rfl)
    (pss_cons (ps_set (i := 3) sc_law_draw.nd rfl (Or.inl rfl) (pe_dget hu (pv 0) pe_str (fun _ _ => rfl)))
    (pss_cons (ps_set (i := 4) sc_law_draw.nd rfl (Or.inl rfl) (pe_op op_modN (pe_callTy call_int1 (by rfl) T.n_int (by decide +kernel) (pa_cons (pe_op op_add (pe_op op_add (pe_op op_mul (pe_dget hu (pv 0) pe_str (fun _ _ => rfl)) pe_int) (pe_op op_mul (pe_op op_mul (pv 3) (pv 3)) pe_int)) (pe_op op_mul pe_int (pv 3))) pa_nil)) pe_int))
    (pss_cons (ps_set (i := 4) sc_law_draw.nd rfl (Or.inl rfl) (pe_op op_modN (pe_callTy call_int1 (by rfl) T.n_int (by decide +kernel) (pa_cons (pe_op op_add (pe_op op_mul (pv 4) pe_int) (pe_op op_fdivN (pv 4) pe_int)) pa_nil)) pe_int))
    (pss_cons (ps_dput hu (pv 0) pe_str (pv 4) rfl)
    (pss_one (ps_ret (pe_op op_modN (pe_callTy call_int1 (by rfl) T.n_int (by decide +kernel) (pa_cons (pe_op op_fdivN (pv 4) pe_int) pa_nil)) (pv 1)))))))))), ?_⟩
  have nab : a ≠ b := ne_of ha hbb (by simp)
  -- far = bag['far']; far != []
  refine ⟨.ref a, rfl, a, .ref b, rfl, DGet.k (k := kFar) ha, ?_⟩
  refine ⟨.ref b, rfl, Nat.zero_le _, fun p hp => ?_⟩
  have npa : a ≠ p := ne_of_none ha hp
  have npb : b ≠ p := ne_of_none hbb hp
  have ha1 : (upd H p (.lst [])) a = some (.dK [(kFar, .ref b), (kStir, .int sr), (kTurn, .int t)]) := by rw [upd_ne npa]; exact ha
  have hb1 : (upd H p (.lst [])) b = some (.lst (far.map V.int)) := by rw [upd_ne npb]; exact hbb
  have keep1 : ∀ c o, H c = some o → (upd H p (.lst [])) c = some o := fun c o q => by rw [upd_ne (ne_of_none q hp)]; exact q
  have none1 : ∀ c, (upd H p (.lst [])) c = none → H c = none := fun c q => by
    by_cases hc : c = p
    · rw [hc]; exact hp
    · rw [upd_ne hc] at q; exact q
  have hp1 : (upd H p (.lst [])) p = some (.lst []) := upd_same
  generalize upd H p (.lst []) = H1 at ha1 hb1 keep1 none1 hp1 ⊢
  refine ⟨_, _, .lst (SqL.of hb1) (dp_ints far), .lst (SqL.of hp1) .nil, shaped_ints far, shaped_ints [], _, rfl, ?_⟩
  rw [eqv_nil]
  cases far with
  | cons x r =>
    refine iteT ?_
    -- whole = far.pop(0)
    refine ⟨.ref b, rfl, .inl ⟨rfl, _, SqL.of hb1⟩, b, _, 0, 0, .int x, rfl, rfl, hb1, by omega, by omega, seqIx (j := 0) (by simp), rfl, ?_⟩
    have hb2 : (upd H1 b (.lst (r.map V.int))) b = some (.lst (r.map V.int)) := upd_same
    have ha2 : (upd H1 b (.lst (r.map V.int))) a = some (.dK [(kFar, .ref b), (kStir, .int sr), (kTurn, .int t)]) := by rw [upd_ne nab]; exact ha1
    have hrl : r.length ≤ 62 := by simp at hfl; omega
    refine ⟨.int x, rfl, .int m, rfl, x, m, rfl, rfl, _, rfl, ite2 (fun h => ?_) (fun h => ?_)⟩
    · -- far.insert(0, whole // many)
      refine ⟨.ref b, rfl, .inl ⟨rfl, _, SqL.of hb2⟩, .int x, rfl, .int m, rfl, x, m, rfl, rfl, ⟨by omega, by omega⟩, b, _, 0, .int (x.fdiv m), rfl, rfl, hb2, szl (by rw [List.length_map]; omega), by omega, by omega, ?_⟩
      refine ⟨.int x, rfl, .inl ⟨x, rfl, .int m, rfl, x, m, rfl, rfl, by omega, ?_⟩⟩
      obtain ⟨gr, bg, fh⟩ := draw_fin (H' := upd (upd H1 b (.lst (r.map V.int))) b (.lst ((x.fdiv m :: r).map V.int))) (n := n) g ga gb ha hbb (fun c o q h1 h2 => by rw [upd_ne h2, upd_ne h2]; exact keep1 c o q)
        (by rw [upd_ne nab]; exact ha2) upd_same (by simp; omega) hs0 hs1 ht0 (by omega) (fun c q => by
          by_cases hc : c = b
          · subst hc; rw [upd_same] at q; cases q
          · rw [upd_ne hc, upd_ne hc] at q; exact none1 c q)
      exact hq _ (n + 1) _ G _ (hret _ _ ⟨x.fmod m, rfl, Int.fmod_nonneg_of_pos _ (by omega), Int.fmod_lt_of_pos _ (by omega)⟩ (by omega) (by omega)) gr bg fh (.int _)
    · refine ⟨.int x, rfl, .inl ⟨x, rfl, .int m, rfl, x, m, rfl, rfl, by omega, ?_⟩⟩
      obtain ⟨gr, bg, fh⟩ := draw_fin (H' := upd H1 b (.lst (r.map V.int))) (n := n) g ga gb ha hbb (fun c o q h1 h2 => by rw [upd_ne h2]; exact keep1 c o q)
        ha2 hb2 (by omega) hs0 hs1 ht0 (by omega) (fun c q => by
          by_cases hc : c = b
          · subst hc; rw [upd_same] at q; cases q
          · rw [upd_ne hc] at q; exact none1 c q)
      exact hq _ (n + 1) _ G _ (hret _ _ ⟨x.fmod m, rfl, Int.fmod_nonneg_of_pos _ (by omega), Int.fmod_lt_of_pos _ (by omega)⟩ (by omega) (by omega)) gr bg fh (.int _)
  | nil =>
    refine iteF ?_
    -- bag['turn'] = bag['turn'] + 1
    refine ⟨.ref a, rfl, a, .int t, rfl, DGet.k (k := kTurn) ha1, t, 1, rfl, rfl, .ref a, rfl, a, _, rfl, DPut.k (k := kTurn) ha1 (szl (by simp)), ?_⟩
    rw [p_turn]
    have ha2 : (upd H1 a (.dK [(kFar, .ref b), (kStir, .int sr), (kTurn, .int (t + 1))])) a = some (.dK [(kFar, .ref b), (kStir, .int sr), (kTurn, .int (t + 1))]) := upd_same
    refine ⟨.ref a, rfl, a, .int (t + 1), rfl, DGet.k (k := kTurn) ha2, ?_⟩
    have ht2 : t + 1 ≤ 1000000000001 := by omega
    -- mixed
    refine ⟨.ref a, rfl, a, .int sr, rfl, DGet.k (k := kStir) ha2, sr, 69621, rfl, rfl, .inr ⟨by omega, by omega⟩, .int (t + 1), rfl, .int (t + 1), rfl, t + 1, t + 1, rfl, rfl, .inl ⟨by omega, by omega⟩, _, 7, rfl, rfl, .inr ⟨by omega, by omega⟩, _, _, rfl, rfl, .int (t + 1), rfl, 104729, t + 1, rfl, rfl, .inl ⟨by omega, by omega⟩, _, _, rfl, rfl, .inl ⟨_, rfl, _, 4294967279, rfl, rfl, by omega, ?_⟩⟩
    have fm : ∀ z : Int, 0 ≤ z.fmod 4294967291 ∧ z.fmod 4294967291 < 4294967291 := fun z => ⟨Int.fmod_nonneg_of_pos _ (by omega), Int.fmod_lt_of_pos _ (by omega)⟩
    refine ⟨_, rfl, _, 48271, rfl, rfl, .inr ⟨by omega, by omega⟩, _, rfl, _, 65536, rfl, rfl, ⟨by decide, by decide⟩, _, _, rfl, rfl, .inl ⟨_, rfl, _, 4294967291, rfl, rfl, by omega, ?_⟩⟩
    -- bag['stirred'] = mixed
    refine ⟨_, rfl, .ref a, rfl, a, _, rfl, DPut.k (k := kStir) ha2 (szl (by simp)), ?_⟩
    rw [p_stir]
    refine ⟨_, rfl, _, 1024, rfl, rfl, ⟨by decide, by decide⟩, .inl ⟨_, rfl, .int m, rfl, _, m, rfl, rfl, by omega, ?_⟩⟩
    obtain ⟨gr, bg, fh⟩ := draw_fin (H' := upd (upd H1 a (.dK [(kFar, .ref b), (kStir, .int sr), (kTurn, .int (t + 1))])) a (.dK [(kFar, .ref b), (kStir, .int (Int.fmod _ 4294967291)), (kTurn, .int (t + 1))])) (n := n) (far := []) g ga gb ha hbb (fun c o q h1 h2 => by rw [upd_ne h1, upd_ne h1]; exact keep1 c o q)
      upd_same (by rw [upd_ne nab.symm, upd_ne nab.symm]; exact hb1) (by decide) (fm _).1 (fm _).2 (by omega) (by omega) (fun c q => by
        by_cases hc : c = a
        · subst hc; rw [upd_same] at q; cases q
        · rw [upd_ne hc, upd_ne hc] at q; exact none1 c q)
    exact hq _ (n + 1) _ G _ (hret _ _ ⟨_, rfl, Int.fmod_nonneg_of_pos _ (by omega), Int.fmod_lt_of_pos _ (by omega)⟩ (by omega) (by omega)) gr bg fh (.int _)
end
end Ly.K7

namespace Ly.K7
open PySem PySem.Spec PyProof.Rows L2
def cellF (x : Int) : Int := 2 * (if x < 0 then -x else x) + (if decide (x < 0) = true then 1 else 0)
theorem take_succ_map {α β : Type} {f : α → β} {l : List α} {i : Nat} {x : α} (h : l[i]? = some x) : (l.take (i + 1)).map f = (l.take i).map f ++ [f x] := by
  rw [List.take_add_one, h, List.map_append]; rfl
section
variable {P : Program} {w : World} {K : PySem.W.Frag} {mg : Str → Option Value} {base : Heap}
theorem ok_bag (T : Txt K mg) : ok_law_bag P w base T := by
  refine T.F_law_bag.ok sc_law_bag (fun vs H Q E ⟨G, ds, n, Q', g, hl, rl, hc, hq⟩ => by rw [rl.length, hl]; rfl) (fun cdv A outer s H vs Q E hr ⟨G, ds, n, Q', g, hl, rl, h1, hq⟩ => ?_)
  have hu := hu_of hr
  obtain ⟨ns, rfl, hlen, hret⟩ := h1
  cases rl with
  | cons ra rl =>
  cases rl
  cases ra with
  | @scr a _ hsc =>
  have hS := hsc.seq
  refine ⟨_, pss_cons (ps_par (i := 2) (j := 3) rfl sc_law_bag.nd rfl rfl (by decide) rfl rfl (pa_cons (pe_lc (own := [("cell", 1)]) rfl sc_law_bag.nd (pi_list (pe_slice sl_list (pv 0) po_none (po_some pe_int))) (blkOk_by (own := [("cell", 1)]) (N := N_law_bag) (sc := defScope s_law_bag) (by decide +kernel))
        (fun _ _ _ _ _ => pg_name (i := 1) sc_law_bag.nd rfl (Or.inl rfl)) (fun _ _ _ _ _ => pts_nil)
        (fun _ _ _ _ _ => pe_op op_add (pe_op op_mul pe_int (pe_callB call_abs (by rfl) T.n_abs (by decide +kernel) (pa_cons (pv 1) pa_nil))) (pe_callTy call_int1 (by rfl) T.n_int (by decide +kernel) (pa_cons (pe_cmpR op_lt (pv 1) pe_int (nomark _)) pa_nil))))
      (pa_cons (pe_op op_add pe_int (pe_callB call_len_seq (by rfl) T.n_len PySem.boot_len (pa_cons (pv 0) pa_nil))) pa_nil)) (by rfl))
    (pss_cons (ps_for PassesOwn.never rfl (pi_list (pv 2)) (pg_name (i := 1) sc_law_bag.nd rfl (Or.inl rfl))
      (pss_one (ps_set (i := 3) sc_law_bag.nd rfl (Or.inl rfl) (pe_op op_modN (pe_callTy call_int1 (by rfl) T.n_int (by decide +kernel) (pa_cons (pe_op op_add (pe_op op_add (pe_op op_mul (pv 3) pe_int) (pv 1)) pe_int) pa_nil)) pe_int))))
    (pss_one (ps_ret (pe_disp (pps_cons pe_str (pe_lc (own := [("cell", 1)]) rfl sc_law_bag.nd (pi_list (pv 2)) (blkOk_by (own := [("cell", 1)]) (N := N_law_bag) (sc := defScope s_law_bag) (by decide +kernel))
        (fun _ _ _ _ _ => pg_name (i := 1) sc_law_bag.nd rfl (Or.inl rfl)) (fun _ _ _ _ _ => pts_one (pt_cmpR op_ge (pv 1) (pe_op op_pow pe_int pe_int) (nomark _))) (fun _ _ _ _ _ => pv 1))
      (pps_cons pe_str (pv 3) (pps_cons pe_str pe_int pps_nil))) (by rfl) (by rfl) (fun z => by cases z) (by decide))))), ?_⟩
  -- script[:63]
  refine ⟨.ref a, rfl, 63, rfl, a, _, rfl, hS, fun p hp => ?_⟩
  have hcut : cutV (ns.map V.int) none (some 63) = ns.map V.int := by
    unfold cutV
    rw [HT.sIx_none, show (63 : Int) = ((63 : Nat) : Int) from rfl, HT.sIx_nat, List.length_map, Nat.min_eq_right hlen, List.drop_zero, Nat.sub_zero, List.take_of_length_le (by rw [List.length_map]; omega)]
  rw [hcut]
  refine ⟨p, rfl, ⟨_, SqL.of upd_same⟩, fun Dd hD => ?_⟩
  have hDp : Dd ≠ p := fun z => by subst z; rw [upd_same] at hD; cases hD
  have hDn : H Dd = none := by rw [upd_ne hDp] at hD; exact hD
  refine lc_list (K := K) (a := p) (xs := ns.map V.int) (fun i H' => H' Dd = some (.lst (((ns.take i).map cellF).map V.int)) ∧ H' p = some (.lst (ns.map V.int)) ∧ (∀ c o, H c = some o → H' c = some o) ∧ ∀ c, H' c = none → H c = none) ⟨upd_same, by rw [upd_ne hDp.symm]; exact upd_same, fun c o q => ?_, fun c q => ?_⟩ (fun i H' _ h => SqL.of h.2.1) ?_ ?_
  · rw [upd_ne (ne_of_none q hDn), upd_ne (ne_of_none q hp)]; exact q
  · by_cases c1 : c = Dd
    · rw [c1]; exact hDn
    · by_cases c2 : c = p
      · rw [c2]; exact hp
      · rw [upd_ne c1, upd_ne c2] at q; exact q
  · rintro i x H' hx ⟨e1, e2, e3, e4⟩
    rw [List.getElem?_map] at hx
    cases hxi : ns[i]? with
    | none => rw [hxi] at hx; cases hx
    | some y =>
      rw [hxi] at hx
      cases hx
      refine ⟨rfl, ?_⟩
      unfold tYes; dsimp only
      rw [if_pos rfl]
      refine ⟨.int y, rfl, y, rfl, 2, _, rfl, rfl, .inl ⟨by omega, by omega⟩, .int y, rfl, y, 0, rfl, rfl, .inr ⟨decide (y < 0), rfl, _, _, rfl, rfl, _, e1, szl (by rw [List.length_map, List.length_map, List.length_take]; omega), ?_, ?_, ?_, ?_⟩⟩
      · rw [upd_same, take_succ_map hxi, List.map_append]; rfl
      · rw [upd_ne hDp.symm]; exact e2
      · intro c o q; rw [upd_ne (ne_of_none q hDn)]; exact e3 c o q
      · intro c q
        by_cases c1 : c = Dd
        · rw [c1]; exact hDn
        · rw [upd_ne c1] at q; exact e4 c q
  · rintro H1 ⟨e1, e2, e3, e4⟩
    rw [List.length_map, List.take_length] at e1
    have hS1 : SqL K H1 a (ns.map V.int) := by
      rcases hsc with ⟨o, q⟩ | q
      · exact .inl (.inr ⟨o, e3 _ _ q⟩)
      · exact .inr q
    refine ⟨.ref a, rfl, a, _, rfl, .inl hS1, 15729, _, rfl, rfl, _, _, rfl, ?_⟩
    rw [List.length_map]
    -- for cell in cells
    generalize hcs : ns.map cellF = cs at e1
    have hcl : cs.length ≤ 63 := by rw [← hcs, List.length_map]; exact hlen
    have hSc : ∀ H', H' Dd = some (.lst (cs.map V.int)) → SqL K H' Dd (cs.map V.int) := fun _ q => SqL.of q
    refine ⟨.ref Dd, rfl, Dd, rfl, ⟨_, SqL.of e1⟩, ?_⟩
    refine for_list (K := K) (a := Dd) (xs := cs.map V.int) (fun i σ H' => H' = H1 ∧ ∃ y1 sr, σ = [some (.ref a), y1, some (.ref Dd), some (.int sr)] ∧ 0 ≤ sr ∧ sr < 4294967291) ⟨rfl, none, 15729 + (ns.length : Int), rfl, by omega, by omega⟩ (fun i σ H' _ h => by rw [h.1]; exact SqL.of e1) ?_ ?_
    · rintro i x σ H' hx ⟨rfl, y1, sr, rfl, s0, s1⟩
      rw [List.getElem?_map] at hx
      cases hxi : cs[i]? with
      | none => rw [hxi] at hx; cases hx
      | some y =>
        rw [hxi] at hx
        cases hx
        exact ⟨.int sr, rfl, sr, 48271, rfl, rfl, .inr ⟨by omega, by omega⟩, .int y, rfl, _, _, rfl, rfl, _, _, rfl, rfl, .inl ⟨_, rfl, _, 4294967291, rfl, rfl, by omega, rfl, _, _, rfl, Int.fmod_nonneg_of_pos _ (by omega), Int.fmod_lt_of_pos _ (by omega)⟩⟩
    · rintro σ H' ⟨rfl, y1, sr, rfl, s0, s1⟩
      -- the dict
      intro q hq0
      have nDq : Dd ≠ q := ne_of_none e1 hq0
      refine ⟨.ref Dd, rfl, Dd, rfl, ⟨_, SqL.of (by rw [upd_ne nDq]; exact e1)⟩, fun E2 hE => ?_⟩
      have nEq : E2 ≠ q := fun z => by subst z; rw [upd_same] at hE; cases hE
      have hEn : H' E2 = none := by rw [upd_ne nEq] at hE; exact hE
      have nDE : Dd ≠ E2 := ne_of_none e1 hEn
      refine lc_list (K := K) (a := Dd) (xs := cs.map V.int) (fun i H2 => ∃ far : List Int, H2 E2 = some (.lst (far.map V.int)) ∧ far.length ≤ i ∧ H2 q = some (.dK []) ∧ H2 Dd = some (.lst (cs.map V.int)) ∧ (∀ c o, H' c = some o → H2 c = some o) ∧ ∀ c, H2 c = none → H' c = none)
        ⟨[], upd_same, Nat.le_refl _, by rw [upd_ne nEq.symm]; exact upd_same, by rw [upd_ne nDE, upd_ne nDq]; exact e1, fun c o z => ?_, fun c z => ?_⟩ (fun i H2 _ ⟨far, h⟩ => SqL.of h.2.2.2.1) ?_ ?_
      · rw [upd_ne (ne_of_none z hEn), upd_ne (ne_of_none z hq0)]; exact z
      · by_cases c1 : c = E2
        · rw [c1]; exact hEn
        · by_cases c2 : c = q
          · rw [c2]; exact hq0
          · rw [upd_ne c1, upd_ne c2] at z; exact z
      · rintro i x H2 hx ⟨far, f1, f2, f3, f4, f5, f6⟩
        rw [List.getElem?_map] at hx
        cases hxi : cs[i]? with
        | none => rw [hxi] at hx; cases hx
        | some y =>
          rw [hxi] at hx
          cases hx
          have hil : i < cs.length := (List.getElem?_eq_some_iff.mp hxi).1
          refine ⟨rfl, .int y, rfl, 10, 15, rfl, rfl, ⟨by decide, by decide, by decide⟩, y, _, rfl, rfl, _, rfl, ite2 (fun h => ?_) (fun h => ?_)⟩
          · refine ⟨.int y, rfl, _, f1, szl (by rw [List.length_map]; omega), far ++ [y], by rw [upd_same, List.map_append]; rfl, by simp; omega, by rw [upd_ne nEq.symm]; exact f3, by rw [upd_ne nDE]; exact f4, fun c o z => ?_, fun c z => ?_⟩
            · rw [upd_ne (ne_of_none z hEn)]; exact f5 c o z
            · by_cases c1 : c = E2
              · rw [c1]; exact hEn
              · rw [upd_ne c1] at z; exact f6 c z
          · exact ⟨far, f1, by omega, f3, f4, f5, f6⟩
      · rintro H2 ⟨far, f1, f2, f3, f4, f5, f6⟩
        rw [List.length_map] at f2
        refine ⟨.int sr, rfl, f3, [(kFar, .ref E2), (kStir, .int sr), (kTurn, .int 0)], rfl, by rw [List.length_cons, List.length_cons, List.length_cons, List.length_nil]; decide, ?_⟩
        have hmer : mergeK [] [(kFar, .ref E2), (kStir, .int sr), (kTurn, .int 0)] = [(kFar, V.ref E2), (kStir, .int sr), (kTurn, .int 0)] := rfl
        rw [hmer]
        have hqn : H q = none := e4 q hq0
        have hEH : H E2 = none := e4 E2 hEn
        have gq := g.fh q hqn
        have gE := g.fh E2 hEH
        have kp : ∀ c o, H c = some o → (upd H2 q (.dK [(kFar, V.ref E2), (kStir, .int sr), (kTurn, .int 0)])) c = some o := fun c o z => by rw [upd_ne (ne_of_none z hqn)]; exact f5 c o (e3 c o z)
        have gk : ∀ c, c ≠ q → c ≠ E2 → updG (updG G q (.bagd E2)) E2 (.bagl q) c = G c := fun c h1 h2 => by rw [updG_ne h2, updG_ne h1]
        have gqq : updG (updG G q (.bagd E2)) E2 (.bagl q) q = .bagd E2 := by rw [updG_ne nEq.symm, updG_same]
        refine hq (.bag q) n (.ref q) (updG (updG G q (.bagd E2)) E2 (.bagl q)) _ (hret q) ⟨fun c o z h1 h2 => ⟨kp c o z, gk c (ne_of_none z hqn) (ne_of_none z hEH)⟩, fun c d z => ?_, fun c d z => ?_, fun c xs z => kp c _ z, fun c o u z => kp c _ z⟩ (fun c d z => ?_) (fun c z => ?_) (.bag gqq)
        · rw [gk c (fun y => by rw [y, gq] at z; cases z) (fun y => by rw [y, gE] at z; cases z)]; exact z
        · rw [gk c (fun y => by rw [y, gq] at z; cases z) (fun y => by rw [y, gE] at z; cases z)]; exact z
        · by_cases c1 : c = q
          · subst c1
            rw [gqq] at z
            cases z
            exact ⟨updG_same, far, sr, 0, upd_same, by rw [upd_ne nEq]; exact f1, by omega, s0, s1, by omega, by omega⟩
          · by_cases c2 : c = E2
            · subst c2; rw [updG_same] at z; cases z
            · rw [gk c c1 c2] at z
              obtain ⟨gd, far', s', t', hcc, hdd, zz⟩ := g.bg c d z
              exact ⟨by rw [gk d (ne_of_none hdd hqn) (ne_of_none hdd hEH)]; exact gd, far', s', t', kp c _ hcc, kp d _ hdd, zz⟩
        · have c1 : c ≠ q := fun y => by subst y; rw [upd_same] at z; cases z
          rw [upd_ne c1] at z
          have c2 : c ≠ E2 := fun y => by subst y; rw [f1] at z; cases z
          rw [gk c c1 c2]
          exact g.fh c (e4 c (f6 c z))
end
end Ly.K7

namespace Ly.K7
open PySem PySem.Spec PyProof.Rows L2
local macro_rules | `(tactic| walk_at "w") => `(tactic| try simp only [wRet, wRetN, wAndV, wOrV, wNotV, wCB, wCons, wNil, wV, wC, wChain, wTst, wTNot, wTAnd, wTOr, wIf, wOp, wIxN, wIx, wTup, wLst, wLenN, wSeq, wSkip, wIfS, wSet, wAsg, wgTup_iff, wgCons_iff, wgNil_iff, wgN, wCall, wCall0, wPar2, wPar3, wSl, woN, woS, wNeg, wDrop, wDct, wDct1, wListR1, wFor, wiR1, wiR2, wiSeq, wiEn, wiZip, wLc, wYes, wApp, wPop, wgIx,
  gIsi_iff, gLen_iff, gTuple_iff, gList_iff, gAll_iff, gI_iff, gAbs_iff, gMM_iff, gInt_iff, gEq_int, gEq_str, gEq_emp, listOf, gAdd_int, gAdd_tup, gAdd_lst, gAdd_lstN, gAdd_Nlst, gAdd_new, gMul_int, gMul_tup, gIsN_iff, gSl_tup, gSl_lst, gSl_new, sqL, sqT, sqN, ssL, ssT, ssO, dOf_val, dOf_new, svOf_val, svOf_new, kI_non, kI_bl, kI_int, kI_str, kI_tup, kI_lst, kI_dct, kI_dc0, kB_non, kB_bl, kB_int, kB_str, kB_tup, kB_lst, kB_dct, kB_dc0, kT_non, kT_bl, kT_int, kT_str, kT_tup, kT_lst, kT_dct, kT_dc0, kS_non, kS_bl, kS_int, kS_str, kS_tup, kS_lst, kS_dct, kS_dc0, wipeD,
  List.getElem?_cons_zero, List.getElem?_cons_succ, List.getElem?_nil, List.set_cons_zero, List.set_cons_succ, List.map_cons, List.map_nil, List.length_cons, List.length_nil, RV.val.injEq, RV.new.injEq, D.bl.injEq, D.int.injEq, D.str.injEq, D.tup.injEq, D.lst.injEq, SV.val.injEq, SV.own.injEq, Option.some.injEq, exists_eq_left', exists_eq_left, exists_and_left, exists_eq_right, true_and, and_true, Bool.not_true, Bool.not_false, Bool.false_eq_true, if_true, if_false, reduceIte, ite_self, Bool.true_xor, Bool.false_xor, Bool.not_eq_true', decide_eq_true_eq, List.cons.injEq, isNon, exists_eq, exists_eq', at0, at1, mvD_len, tlD_len, rowD_def, wDNew, wDGet, wDIn, wDPut, wDOne, wAugI, wTry, wRaise, wCallX, wInG, wExt, wCallK, wDc0, wRaiseF, wTryAs, wTryAs2, wXf, wIsX, wCallKX, wRevT, wGetC, wGIx, wGSort, wInG2, wRevL, wM1, wM0, wSlS, wFmt, wJoined, wJs, wReprN, dSV_val, dSV_own, lookD, pick, List.filterMap_cons, List.filterMap_nil, isOwnD, SV.ownD.injEq, svOf_newD, key_pair])
open TL (tl numL tl_num tl_append tl_join join_eq split_join ext_tl joinL numL_free)
def numB (k : Nat) : Bool := Txt.isascii (num k) && Txt.isdecimal (num k) && (num k).length == (if k < 10 then 1 else 2) && (PySem.intText? (num k) == some (k : Int)) && (decide (k < 10) || (match (tl (num k)) with | c :: _ => decide (c ≠ 48) | [] => false))
theorem numB_all : (List.range 100).all numB = true := by decide +kernel
theorem num_ok {k : Nat} (h : k ≤ 99) : Txt.isascii (num k) = true ∧ Txt.isdecimal (num k) = true ∧ (num k).length = (if k < 10 then 1 else 2) ∧ PySem.intText? (num k) = some (k : Int) ∧ (10 ≤ k → ∃ c r, tl (num k) = c :: r ∧ c ≠ 48) := by
  have z := List.all_eq_true.mp numB_all k (List.mem_range.mpr (by omega))
  unfold numB at z
  simp only [Bool.and_eq_true, beq_iff_eq, Bool.or_eq_true, decide_eq_true_eq] at z
  obtain ⟨⟨⟨⟨h1, h2⟩, h3⟩, h4⟩, h5⟩ := z
  refine ⟨h1, h2, h3, h4, fun hk => ?_⟩
  rcases h5 with h5 | h5
  · omega
  · split at h5
    · rename_i c r e
      exact ⟨c, r, e, by simpa using h5⟩
    · cases h5
theorem num_len {k : Nat} (h : k ≤ 99) : (num k).length ≤ 2 := by
  rw [(num_ok h).2.2.1]; split <;> decide
theorem tl_n (k : Nat) : tl (num k) = numL k := tl_num k
theorem num_free {k c : Nat} (h : c < 48 ∨ 57 < c) : c ∉ tl (num k) := by rw [tl_n]; exact numL_free h
theorem strI_of {i : Int} {R : RV → Prop} (h0 : 0 ≤ i) (h : i ≤ 99) (q : R (.val (.str (num i)))) : gStrI [.val (.int i)] R :=
  ⟨i, rfl, Nat.lt_of_lt_of_le (show i.natAbs < 10 ^ 2 by omega) (Nat.pow_le_pow_right (by decide) (by decide)), q⟩
theorem h_read_number : ∀ ds n Q, ds.length = 2 → c_read_number ds n Q → wb_read_number { nx := fun _ n' => Q .non n', rt := Q } (startD ["word", "high", "number"] ds) n := by
  rintro ds n Q - ⟨k, hi, rfl, hk, hh, hq⟩
  obtain ⟨h1, h2, h3, h4, h5⟩ := num_ok (k := k) (by omega)
  have g3 := (num_ok (k := hi) hh).2.2.1
  show wb_read_number _ [.val (.str (num k)), .val (.int hi), .un] n
  unfold wb_read_number; walk_at "w"
  refine ⟨true, congrArg D.bl h1, ?_⟩
  rw [if_neg (by decide)]
  refine ⟨true, congrArg D.bl h2, ?_⟩
  rw [if_neg (by decide)]
  refine ⟨_, rfl, sz (by rw [h3]; split <;> decide), strI_of (by omega) (by omega) ⟨_, rfl, sz (by rw [g3]; split <;> decide), ?_⟩⟩
  walk_at "w"
  rw [h3, g3, if_neg (by split <;> split <;> omega)]
  unfold wb_read_number_3; walk_at "w"
  refine ⟨_, rfl, sz (by rw [h3]; split <;> decide), ?_⟩
  walk_at "w"
  have rest : wb_read_number_2 { nx := fun _ n' => Q .non n', rt := Q } [.val (.str (num k)), .val (.int hi), .un] n := by
    unfold wb_read_number_2; walk_at "w"
    refine ⟨_, _, rfl, h4, by rw [h3]; split <;> decide, ?_⟩
    unfold wb_read_number_1; walk_at "w"
    rw [if_pos (by omega)]
    exact hq
  by_cases hk10 : k < 10
  · rw [h3, if_pos hk10, if_neg (by decide)]
    exact rest
  · rw [h3, if_neg hk10, if_pos (by decide)]
    obtain ⟨c, r, e1, e2⟩ := h5 (by omega)
    refine ⟨_, _, c, rfl, rfl, sz (by rw [h3]; split <;> decide), ?_, ?_⟩
    · show atI (tl (num k)) 0 = some c
      rw [e1]
      simp [atI, ixN]
    · walk_at "w"
      have e3 : ¬ ((⟨#[c]⟩ : Str) = "0") := fun z => by
        have z := congrArg tl z
        have z : [c] = [48] := z
        injection z with z _
        exact e2 z
      rw [if_neg e3]
      exact rest
theorem lineS_eq {r : List Int} {t : Int} (h : r ≠ []) : lineS r t = Txt.join " " (r.map num ++ [("tells" : Str), num t]) := by
  refine ext_tl ?_
  have e1 : tl (Txt.join " " (r.map num)) = joinL (tl " ") ((r.map num).map tl) := by rw [join_eq, tl_join]
  have e2 : tl (Txt.join " " (r.map num ++ [("tells" : Str), num t])) = joinL (tl " ") ((r.map num ++ [("tells" : Str), num t]).map tl) := by rw [join_eq, tl_join]
  unfold lineS
  rw [tl_append, tl_append, e1, e2]
  have main : ∀ (L : List (List Nat)), L ≠ [] → joinL (tl " ") L ++ tl " tells " ++ tl (num t) = joinL (tl " ") (L ++ [tl "tells", tl (num t)]) := by
    intro L
    induction L with
    | nil => intro h; exact absurd rfl h
    | cons p L ih =>
      intro _
      cases L with
      | nil =>
        show p ++ tl " tells " ++ tl (num t) = p ++ (tl " " ++ (tl "tells" ++ (tl " " ++ tl (num t))))
        have e : tl (" tells " : Str) = tl (" " : Str) ++ (tl ("tells" : Str) ++ tl (" " : Str)) := by decide +kernel
        rw [e]; simp
      | cons q L =>
        have ih := ih (by simp)
        show p ++ (tl " " ++ joinL (tl " ") (q :: L)) ++ tl " tells " ++ tl (num t) = p ++ (tl " " ++ joinL (tl " ") (q :: (L ++ [tl "tells", tl (num t)])))
        rw [show joinL (tl (" " : Str)) (q :: (L ++ [tl "tells", tl (num t)])) = joinL (tl " ") ((q :: L) ++ [tl "tells", tl (num t)]) from rfl, ← ih]
        simp
  rw [List.map_append]
  exact main _ (by simpa using h)
theorem split_line {r : List Int} {t : Nat} (h : r ≠ []) (h0 : ∀ x ∈ r, 0 ≤ x) : Txt.split (lineS r t) " " = r.map num ++ [("tells" : Str), num t] := by
  rw [lineS_eq h]
  refine split_join (s := 32) (S := []) (by decide +kernel) (by decide +kernel) (by simp) fun p hp => ?_
  rcases List.mem_append.mp hp with hp | hp
  · obtain ⟨x, hx, rfl⟩ := List.mem_map.mp hp
    obtain ⟨k, rfl⟩ : ∃ k : Nat, x = (k : Int) := ⟨x.toNat, by have := h0 x hx; omega⟩
    exact num_free (by decide)
  · simp only [List.mem_cons, List.not_mem_nil, or_false] at hp
    rcases hp with rfl | rfl
    · decide +kernel
    · exact num_free (by decide)
end Ly.K7

namespace Ly.K7
open PySem PySem.Spec PyProof.Rows L2
local macro_rules | `(tactic| walk_at "w") => `(tactic| try simp only [wRet, wRetN, wAndV, wOrV, wNotV, wCB, wCons, wNil, wV, wC, wChain, wTst, wTNot, wTAnd, wTOr, wIf, wOp, wIxN, wIx, wTup, wLst, wLenN, wSeq, wSkip, wIfS, wSet, wAsg, wgTup_iff, wgCons_iff, wgNil_iff, wgN, wCall, wCall0, wPar2, wPar3, wSl, woN, woS, wNeg, wDrop, wDct, wDct1, wListR1, wFor, wiR1, wiR2, wiSeq, wiEn, wiZip, wLc, wYes, wApp, wPop, wgIx,
  gIsi_iff, gLen_iff, gTuple_iff, gList_iff, gAll_iff, gI_iff, gAbs_iff, gMM_iff, gInt_iff, gEq_int, gEq_str, gEq_emp, listOf, gAdd_int, gAdd_tup, gAdd_lst, gAdd_lstN, gAdd_Nlst, gAdd_new, gMul_int, gMul_tup, gIsN_iff, gSl_tup, gSl_lst, gSl_new, sqL, sqT, sqN, ssL, ssT, ssO, dOf_val, dOf_new, svOf_val, svOf_new, kI_non, kI_bl, kI_int, kI_str, kI_tup, kI_lst, kI_dct, kI_dc0, kB_non, kB_bl, kB_int, kB_str, kB_tup, kB_lst, kB_dct, kB_dc0, kT_non, kT_bl, kT_int, kT_str, kT_tup, kT_lst, kT_dct, kT_dc0, kS_non, kS_bl, kS_int, kS_str, kS_tup, kS_lst, kS_dct, kS_dc0, wipeD,
  List.getElem?_cons_zero, List.getElem?_cons_succ, List.getElem?_nil, List.set_cons_zero, List.set_cons_succ, List.map_cons, List.map_nil, List.length_cons, List.length_nil, RV.val.injEq, RV.new.injEq, D.bl.injEq, D.int.injEq, D.str.injEq, D.tup.injEq, D.lst.injEq, SV.val.injEq, SV.own.injEq, Option.some.injEq, exists_eq_left', exists_eq_left, exists_and_left, exists_eq_right, true_and, and_true, Bool.not_true, Bool.not_false, Bool.false_eq_true, if_true, if_false, reduceIte, ite_self, Bool.true_xor, Bool.false_xor, Bool.not_eq_true', decide_eq_true_eq, List.cons.injEq, isNon, exists_eq, exists_eq', at0, at1, mvD_len, tlD_len, rowD_def, wDNew, wDGet, wDIn, wDPut, wDOne, wAugI, wTry, wRaise, wCallX, wInG, wExt, wCallK, wDc0, wRaiseF, wTryAs, wTryAs2, wXf, wIsX, wCallKX, wRevT, wGetC, wGIx, wGSort, wInG2, wRevL, wM1, wM0, wSlS, wFmt, wJoined, wJs, wReprN, dSV_val, dSV_own, lookD, pick, List.filterMap_cons, List.filterMap_nil, isOwnD, SV.ownD.injEq, svOf_newD, key_pair])
open TL (tl numL tl_num tl_append tl_join join_eq split_join ext_tl joinL numL_free len_tl)
theorem line_len {r : List Int} {t : Nat} (hr : r.length ≤ 3) (h0 : ∀ x ∈ r, 0 ≤ x ∧ x ≤ 99) (ht : t ≤ 99) : (lineS r t).length ≤ 20 := by
  have n2 : ∀ x : Int, 0 ≤ x → x ≤ 99 → (tl (num x)).length ≤ 2 := fun x h1 h2 => by
    obtain ⟨k, rfl⟩ : ∃ k : Nat, x = (k : Int) := ⟨x.toNat, by omega⟩
    rw [← len_tl]; exact num_len (by omega)
  have e1 : tl (Txt.join " " (r.map num)) = joinL (tl " ") ((r.map num).map tl) := by rw [join_eq, tl_join]
  have e3 : (tl (" tells " : Str)).length = 7 := by decide +kernel
  have e4 : (tl (" " : Str)).length = 1 := by decide +kernel
  have e5 := n2 t (by omega) (by omega)
  have e6 : (joinL (tl (" " : Str)) ((r.map num).map tl)).length ≤ 8 := by
    match r, hr, h0 with
    | [], _, _ => simp [joinL]
    | [a], _, h0 =>
      have := n2 a (h0 a (by simp)).1 (h0 a (by simp)).2
      show (tl (num a)).length ≤ 8
      omega
    | [a, b], _, h0 =>
      have h1 := n2 a (h0 a (by simp)).1 (h0 a (by simp)).2
      have h2 := n2 b (h0 b (by simp)).1 (h0 b (by simp)).2
      show (tl (num a) ++ (tl (" " : Str) ++ tl (num b))).length ≤ 8
      rw [List.length_append, List.length_append, e4]
      omega
    | [a, b, c], _, h0 =>
      have h1 := n2 a (h0 a (by simp)).1 (h0 a (by simp)).2
      have h2 := n2 b (h0 b (by simp)).1 (h0 b (by simp)).2
      have h3 := n2 c (h0 c (by simp)).1 (h0 c (by simp)).2
      show (tl (num a) ++ (tl (" " : Str) ++ (tl (num b) ++ (tl (" " : Str) ++ tl (num c))))).length ≤ 8
      rw [List.length_append, List.length_append, List.length_append, List.length_append, e4]
      omega
    | _ :: _ :: _ :: _ :: _, h, _ => simp at h
  rw [len_tl]
  unfold lineS
  rw [tl_append, tl_append, e1, List.length_append, List.length_append, e3]
  omega
theorem row99 {s : Nat} (hs : s ≤ 24) {r : List Int} (h : ∀ x ∈ r, 0 ≤ x ∧ x < (s : Int)) : ∀ x ∈ r, 0 ≤ x ∧ x ≤ 99 := fun x hx => ⟨(h x hx).1, by have := (h x hx).2; omega⟩
theorem nat_row {r : List Int} (h : ∀ x ∈ r, 0 ≤ x) {i : Nat} {x : Int} (hx : r[i]? = some x) : ∃ k : Nat, x = (k : Int) := ⟨x.toNat, by have := h x (List.mem_of_getElem? hx); omega⟩
theorem gIn_non {r : List Int} {R : RV → Prop} (hs : SeqAt.shaped (.list (r.map PyData.int)) = true) (q : R (.val (.bl false))) : gIn false (.val .non) (.val (.tup (r.map .int))) R := by
  have e : toPys (r.map D.int) = some (r.map PyData.int) := by
    clear hs
    induction r with
    | nil => rfl
    | cons x r ih => rw [List.map_cons, toPys, ih]; rfl
  refine ⟨.none, r.map .int, _, rfl, rfl, e, by decide, hs, ?_⟩
  have e2 : ((r.map PyData.int).any fun z => PyData.eqv z .none) = false := by
    rw [List.any_map, List.any_eq_false]
    intro x _
    simp [PyData.eqv]
  rw [e2]
  exact q
theorem ints_shaped (r : List Int) : SeqAt.shaped (.list (r.map PyData.int)) = true := by
  have c : ∀ r : List Int, PyData.canLayAll0 (r.map PyData.int) = true := fun r => by
    induction r with
    | nil => rfl
    | cons x r ih => rw [List.map_cons, PyData.canLayAll0, ih]; rfl
  have d : ∀ r : List Int, PyData.depthAll (r.map PyData.int) = 0 := fun r => by
    induction r with
    | nil => rfl
    | cons x r ih => rw [List.map_cons, PyData.depthAll, ih]; rfl
  unfold SeqAt.shaped
  rw [Bool.and_eq_true]
  refine ⟨c r, ?_⟩
  rw [PyData.depth, d]; decide
theorem joinL_mem {S : List Nat} {c : Nat} : ∀ {L : List (List Nat)}, c ∈ joinL S L → c ∈ S ∨ ∃ p ∈ L, c ∈ p
  | [], h => by cases h
  | [p], h => .inr ⟨p, List.mem_singleton.mpr rfl, h⟩
  | p :: q :: r, h => by
    have h : c ∈ p ++ (S ++ joinL S (q :: r)) := h
    rcases List.mem_append.mp h with h | h
    · exact .inr ⟨p, List.mem_cons_self, h⟩
    · rcases List.mem_append.mp h with h | h
      · exact .inl h
      · rcases joinL_mem h with h | ⟨p', h1, h2⟩
        · exact .inl h
        · exact .inr ⟨p', List.mem_cons_of_mem _ h1, h2⟩
theorem joinL_len {S : List Nat} : ∀ {L : List (List Nat)}, (joinL S L).length ≤ (L.map (·.length)).sum + L.length * S.length
  | [] => by simp [joinL]
  | [p] => by simp [joinL]
  | p :: q :: r => by
    have i := joinL_len (S := S) (L := q :: r)
    have e : joinL S (p :: q :: r) = p ++ (S ++ joinL S (q :: r)) := rfl
    rw [e, List.length_append, List.length_append, List.map_cons, List.sum_cons, List.length_cons (a := p), Nat.add_mul]
    omega
theorem at_m2 {A : List D} {x y : D} : atI (A ++ [x, y]) (-2) = some x := by
  unfold atI ixN
  rw [if_neg (by decide), if_pos (by simp; omega)]
  show (A ++ [x, y])[_]? = _
  rw [show (-2 + (((A ++ [x, y]).length : Nat) : Int)).toNat = A.length by simp; omega]
  simp
theorem at_m1 {A : List D} {x y : D} : atI (A ++ [x, y]) (-1) = some y := by
  unfold atI ixN
  rw [if_neg (by decide), if_pos (by simp; omega)]
  show (A ++ [x, y])[_]? = _
  rw [show (-1 + (((A ++ [x, y]).length : Nat) : Int)).toNat = A.length + 1 by simp; omega]
  simp
theorem cut_m2 {A : List D} {x y : D} : cutD (A ++ [x, y]) none (some (-2)) = A := by
  unfold cutD
  have h1 : HT.sIx (A ++ [x, y]).length 0 none = 0 := rfl
  have h2 : HT.sIx (A ++ [x, y]).length (A ++ [x, y]).length (some (-2)) = A.length := by
    simp [HT.sIx]
    try omega
  rw [h1, h2]
  simp
theorem h_read_line : ∀ ds n Q, ds.length = 2 → c_read_line ds n Q → wb_read_line { nx := fun _ n' => Q .non n', rt := Q } (startD ["line", "last", "words", "item", "number", "word"] ds) n := by
  rintro ds n Q - ⟨m, s, r, t, rfl, hm, hr, ht, s1, s2, m1, m3, hq⟩
  show wb_read_line _ [.val (.str (lineS r t)), .val (.int ((s : Int) - 1)), .un, .un, .un, .un] n
  have hne : r ≠ [] := fun z => by subst z; simp at hm; omega
  have hsp := split_line (t := t) hne fun x hx => (hr x hx).1
  have hll := line_len (t := t) (by omega) (row99 s2 hr) ht
  unfold wb_read_line; walk_at "w"
  refine ⟨_, rfl, by decide, by rw [sizeLine_eq]; omega, ?_⟩
  rw [hsp]
  walk_at "w"
  have e0 : (r.map num ++ [("tells" : Str), num t]).map D.str = (r.map num).map D.str ++ [D.str "tells", D.str (num t)] := by rw [List.map_append]; rfl
  rw [e0]
  have el : ((r.map num).map D.str ++ [D.str "tells", D.str (num t)]).length = m + 2 := by simp [hm]
  have eA : ((r.map num).map D.str).length = m := by simp [hm]
  unfold wb_read_line_5; walk_at "w"
  rw [el]
  rw [if_pos (by omega), decide_eq_true (by omega), if_neg (by decide)]
  refine ⟨_, at_m2, ?_⟩
  walk_at "w"
  unfold wb_read_line_4; walk_at "w"
  rw [cut_m2]
  rw [if_neg (by rw [decide_eq_true trivial]; decide)]
  have es : (s : Int) - 1 = ((s - 1 : Nat) : Int) := by omega
  rw [es]
  refine comp_inv (fun i acc ρ n' => n' = n ∧ acc = (r.take i).map .int ∧ ∃ x, ρ = [.val (.str (lineS r t)), .val (.int ((s - 1 : Nat) : Int)), .val (.lst ((r.map num).map D.str ++ [D.str "tells", D.str (num t)])), .un, .un, x]) ?_ ⟨rfl, rfl, _, rfl⟩ ?_
  · rintro i d acc ρ n' hd ⟨rfl, rfl, x, rfl⟩ K hK
    rw [List.getElem?_map, List.getElem?_map] at hd
    cases hri : r[i]? with
    | none => rw [hri] at hd; cases hd
    | some v =>
      rw [hri] at hd
      obtain rfl : D.str (num v) = d := Option.some.inj hd
      obtain ⟨k, rfl⟩ := nat_row (fun x hx => (hr x hx).1) hri
      have hk := (hr _ (List.mem_of_getElem? hri)).2
      walk_at "w"
      refine ⟨k, s - 1, rfl, by omega, by omega, szl (by rw [List.length_map]; have := List.length_take_le' i r; omega), hK _ _ _ ⟨rfl, ?_, _, rfl⟩⟩
      rw [List.take_add_one, hri, List.map_append]
      rfl
  · rintro acc ρ n' ⟨rfl, rfl, x, rfl⟩
    rw [List.length_map, List.length_map, List.take_length]
    unfold wb_read_line_3; walk_at "w"
    refine ⟨_, at_m1, t, 99, rfl, ht, by decide, ?_⟩
    unfold wb_read_line_2; walk_at "w"
    refine gIn_non (ints_shaped r) ?_
    refine ⟨false, rfl, ?_⟩
    rw [if_neg (by decide)]
    unfold wb_read_line_1; walk_at "w"
    exact ⟨by decide, hq⟩
/-- a text for each state -/
def linesS (mv : List (List Int)) (tl : List Int) : List Str := (mv.zip tl).map fun p => lineS p.1 p.2
theorem joinRow {mv : List (List Int)} {r : List Int} (h : r.length ≤ 3) (h0 : ∀ x ∈ r, 0 ≤ x ∧ x ≤ 99) : ((r.map num).map (·.length)).sum + (r.map num).length * (Str.ofString " ").length ≤ 16777216 := by
  have e : (Str.ofString " ").length = 1 := by decide
  have n2 : ∀ x ∈ r, (num x).length ≤ 2 := fun x hx => by
    obtain ⟨k, rfl⟩ : ∃ k : Nat, x = (k : Int) := ⟨x.toNat, by have := h0 x hx; omega⟩
    exact num_len (by have := h0 _ hx; omega)
  rw [e]
  match r, h, n2 with
  | [], _, _ => simp
  | [a], _, n2 => have := n2 a (by simp); simp; omega
  | [a, b], _, n2 => have := n2 a (by simp); have := n2 b (by simp); simp; omega
  | [a, b, c], _, n2 => have := n2 a (by simp); have := n2 b (by simp); have := n2 c (by simp); simp; omega
  | _ :: _ :: _ :: _ :: _, h, _ => simp at h
theorem empty_app (x : Str) : Str.empty ++ x = x := by
  refine ext_tl ?_
  rw [tl_append]
  rfl
structure LOk (mv : List (List Int)) (tl : List Int) (i : Nat) (r : List Int) (t : Nat) : Prop where
  l : (linesS mv tl)[i]? = some (lineS r t)
  n : (lineS r t).length ≤ 20
  r3 : r.length ≤ 3
  r9 : ∀ x ∈ r, 0 ≤ x ∧ x ≤ 99
  t9 : t ≤ 99
theorem line_at {m s : Nat} {mv : List (List Int)} {tl : List Int} (ok : MOk m s mv tl) {i : Nat} (hi : i < s) : ∃ r, ∃ t : Nat, mv[i]? = some r ∧ tl[i]? = some (t : Int) ∧ LOk mv tl i r t := by
  have h1 : mv[i]? = some (mv[i]'(by rw [ok.l1]; exact hi)) := List.getElem?_eq_getElem _
  have h2 : tl[i]? = some (tl[i]'(by rw [ok.l2]; exact hi)) := List.getElem?_eq_getElem _
  generalize mv[i]'(by rw [ok.l1]; exact hi) = r at h1
  generalize tl[i]'(by rw [ok.l2]; exact hi) = t at h2
  have hr := ok.r r (List.mem_of_getElem? h1)
  have ht := ok.t t (List.mem_of_getElem? h2)
  obtain ⟨t, rfl⟩ : ∃ k : Nat, t = (k : Int) := ⟨t.toNat, by omega⟩
  have r3 : r.length ≤ 3 := by have := ok.m3; omega
  have r9 := row99 ok.s2 hr.2
  refine ⟨r, t, h1, h2, ?_, line_len r3 r9 (by omega), r3, r9, by omega⟩
  unfold linesS
  rw [List.getElem?_map, (List.getElem?_zip_eq_some (z := (r, (t : Int)))).mpr ⟨h1, h2⟩]
  rfl
theorem lines_len {m s : Nat} {mv : List (List Int)} {tl : List Int} (ok : MOk m s mv tl) : (linesS mv tl).length = s := by
  unfold linesS
  rw [List.length_map, List.length_zip, ok.l1, ok.l2, Nat.min_self]
theorem sumLe {c : Nat} : ∀ {l : List Str}, (∀ x ∈ l, x.length ≤ c) → (l.map (·.length)).sum ≤ l.length * c
  | [], _ => by simp
  | x :: l, h => by
    have i := sumLe (c := c) (l := l) fun y hy => h y (List.mem_cons_of_mem _ hy)
    have h1 := h x List.mem_cons_self
    rw [List.map_cons, List.sum_cons, List.length_cons, Nat.add_mul]
    omega
theorem lines_mem {m s : Nat} {mv : List (List Int)} {tl : List Int} (ok : MOk m s mv tl) : ∀ x ∈ linesS mv tl, ∃ i r, ∃ t : Nat, i < s ∧ x = lineS r t ∧ mv[i]? = some r ∧ LOk mv tl i r t := fun x hx => by
  obtain ⟨i, hi, rfl⟩ := List.getElem_of_mem hx
  have hi2 : i < s := by rw [lines_len ok] at hi; exact hi
  obtain ⟨r, t, h1, h2, h3⟩ := line_at ok hi2
  refine ⟨i, r, t, hi2, ?_, h1, h3⟩
  have := h3.l
  rw [List.getElem?_eq_getElem hi] at this
  exact Option.some.inj this
theorem joinLines {m s : Nat} {mv : List (List Int)} {tl : List Int} (ok : MOk m s mv tl) : ((linesS mv tl).map (·.length)).sum + (linesS mv tl).length * (Str.ofString "\n").length ≤ 16777216 := by
  have e : (Str.ofString "\n").length = 1 := by decide
  have := sumLe (c := 20) (l := linesS mv tl) fun x hx => by
    obtain ⟨i, r, t, _, rfl, _, h⟩ := lines_mem ok x hx
    exact h.n
  rw [e]
  have hl := lines_len ok
  have := ok.s2
  omega
theorem h_teller_text : ∀ ds n Q, ds.length = 1 → c_teller_text ds n Q → wb_teller_text { nx := fun _ n' => Q .non n', rt := Q } (startD ["teller", "lines", "moves", "tells", "item", "number", "states", "state"] ds) n := by
  rintro ds n Q - ⟨m, s, mv, tl, rfl, ok, hq⟩
  show wb_teller_text _ [.val (mD mv tl), .un, .un, .un, .un, .un, .un, .un] n
  unfold mD
  unfold wb_teller_text; walk_at "w"
  unfold wb_teller_text_5; walk_at "w"
  refine ⟨by decide, ?_⟩
  unfold wb_teller_text_4; walk_at "w"
  refine ⟨_, _, ⟨rfl, rfl⟩, .inl ⟨_, rfl, _, rfl, ?_⟩⟩
  refine loop_inv (fun i ρ n' => n' = n ∧ i ≤ s ∧ ∃ x4 x5 x6 x7, ρ = [.val (.tup [.tup (mvD mv), .tup (tlD tl)]), .own (((linesS mv tl).take i).map .str), .val (.tup (mvD mv)), .val (.tup (tlD tl)), x4, x5, x6, x7]) ?_ ⟨rfl, by omega, _, _, _, _, rfl⟩ ?_
  · rintro i d ρ n' hd ⟨rfl, hi, x4, x5, x6, x7, rfl⟩ NX hNX
    have hi2 : i < s := by
      have := (List.getElem?_eq_some_iff.mp hd).1
      rw [zip_len, mvD_len, tlD_len, ok.l1, ok.l2, Nat.min_self] at this
      exact this
    obtain ⟨r, t, h1, h2, lo⟩ := line_at ok hi2
    have hd2 : d = .tup [rowD r, .int t] := by
      obtain ⟨x, y, hx, hy, rfl⟩ := zipD_get hd
      unfold mvD at hx
      unfold tlD at hy
      rw [List.getElem?_map, h1] at hx
      rw [List.getElem?_map, h2] at hy
      rw [← Option.some.inj hx, ← Option.some.inj hy]
    subst hd2
    walk_at "w"
    unfold wb_teller_text_2; walk_at "w"
    refine comp_inv (fun j acc ρ n2 => n2 = n' ∧ acc = ((r.take j).map num).map .str ∧ ∃ y, ρ = [.val (.tup [.tup (mvD mv), .tup (tlD tl)]), .own (((linesS mv tl).take i).map .str), .val (.tup (mvD mv)), .val (.tup (tlD tl)), .val (rowD r), .val (.int t), x6, y]) ?_ ⟨rfl, rfl, _, rfl⟩ ?_
    · rintro j d acc ρ n2 hd ⟨rfl, rfl, y, rfl⟩ K hK
      rw [List.getElem?_map] at hd
      obtain ⟨x, hx, rfl⟩ := Option.map_eq_some_iff.mp hd
      have hx9 := lo.r9 x (List.mem_of_getElem? hx)
      walk_at "w"
      refine strI_of hx9.1 hx9.2 ⟨szl (by rw [List.length_map, List.length_map]; have := List.length_take_le' j r; have := lo.r3; omega), hK _ _ _ ⟨rfl, ?_, _, rfl⟩⟩
      rw [List.take_add_one, hx, List.map_append, List.map_append]
      rfl
    · rintro acc ρ n2 ⟨rfl, rfl, y, rfl⟩
      rw [List.length_map, List.take_length]
      refine ⟨r.map num, rfl, joinRow (mv := mv) lo.r3 lo.r9, ?_⟩
      have e1 : (lineS r t).length = (Txt.join (Str.ofString " ") (r.map num)).length + (Str.ofString " tells ").length + (num t).length := by
        unfold lineS
        rw [strLen_append, strLen_append]
      have e2 : (Str.ofString " tells ").length = 7 := by decide
      have hn := lo.n
      have big : (20 : Nat) ≤ sizeLine := by decide
      have lt2 : ((t : Int)).natAbs.log2 < 1920 := Nat.lt_of_le_of_lt (Nat.log2_le_self _) (by have := lo.t9; omega)
      unfold wb_teller_text_1; walk_at "w"
      rw [empty_app]
      refine .inl ⟨by omega, by omega, by rw [strLen_append]; omega, .inr ⟨lt2, ?_, szl (by rw [List.length_map]; have := List.length_take_le i (linesS mv tl); have := ok.s2; omega), ?_⟩⟩
      · show (lineS r t).length ≤ sizeLine
        omega
      · refine hNX _ _ ⟨rfl, hi2, .val (rowD r), .val (.int t), .val (.str (Txt.join " " (r.map num))), .un, ?_⟩
        rw [List.take_add_one, lo.l, List.map_append]
        rfl
  · rintro ρ n' ⟨rfl, hi, x4, x5, x6, x7, rfl⟩
    rw [zip_len, mvD_len, tlD_len, ok.l1, ok.l2, Nat.min_self, ← lines_len ok, List.take_length]
    unfold wb_teller_text_3; walk_at "w"
    exact ⟨linesS mv tl, rfl, joinLines ok, hq⟩
theorem h_law_text : ∀ ds n Q, ds.length = 1 → c_law_text ds n Q → wb_law_text { nx := fun _ n' => Q .non n', rt := Q } (startD ["machine", "lines", "goals", "number", "goal"] ds) n := by
  rintro ds n Q - ⟨m, s, mv, tl, rfl, ok, hq⟩
  show wb_law_text _ [.val (mD mv tl), .un, .un, .un, .un] n
  unfold mD
  unfold wb_law_text; walk_at "w"
  refine ⟨by decide, ?_⟩
  unfold wb_law_text_3; walk_at "w"
  refine ⟨_, _, ⟨rfl, rfl⟩, .inl ⟨_, rfl, _, rfl, ?_⟩⟩
  refine loop_inv (fun i ρ n' => n' = n ∧ i ≤ s ∧ ∃ x2 x3 x4, ρ = [.val (.tup [.tup (mvD mv), .tup (tlD tl)]), .own (((linesS mv tl).take i).map .str), x2, x3, x4]) ?_ ⟨rfl, by omega, _, _, _, rfl⟩ ?_
  · rintro i d ρ n' hd ⟨rfl, hi, x2, x3, x4, rfl⟩ NX hNX
    have hi2 : i < s := by
      have := (List.getElem?_eq_some_iff.mp hd).1
      rw [zip_len, mvD_len, tlD_len, ok.l1, ok.l2, Nat.min_self] at this
      exact this
    obtain ⟨r, t, h1, h2, lo⟩ := line_at ok hi2
    have hd2 : d = .tup [rowD r, .int t] := by
      obtain ⟨x, y, hx, hy, rfl⟩ := zipD_get hd
      unfold mvD at hx
      unfold tlD at hy
      rw [List.getElem?_map, h1] at hx
      rw [List.getElem?_map, h2] at hy
      rw [← Option.some.inj hx, ← Option.some.inj hy]
    subst hd2
    walk_at "w"
    unfold wb_law_text_1; walk_at "w"
    refine comp_inv (fun j acc ρ n2 => n2 = n' ∧ acc = ((r.take j).map num).map .str ∧ ∃ y, ρ = [.val (.tup [.tup (mvD mv), .tup (tlD tl)]), .own (((linesS mv tl).take i).map .str), .val (rowD r), .val (.int t), y]) ?_ ⟨rfl, rfl, _, rfl⟩ ?_
    · rintro j d acc ρ n2 hd ⟨rfl, rfl, y, rfl⟩ K hK
      rw [List.getElem?_map] at hd
      obtain ⟨x, hx, rfl⟩ := Option.map_eq_some_iff.mp hd
      have hx9 := lo.r9 x (List.mem_of_getElem? hx)
      walk_at "w"
      refine strI_of hx9.1 hx9.2 ⟨szl (by rw [List.length_map, List.length_map]; have := List.length_take_le' j r; have := lo.r3; omega), hK _ _ _ ⟨rfl, ?_, _, rfl⟩⟩
      rw [List.take_add_one, hx, List.map_append, List.map_append]
      rfl
    · rintro acc ρ n2 ⟨rfl, rfl, y, rfl⟩
      rw [List.length_map, List.take_length]
      have e1 : (lineS r t).length = (Txt.join (Str.ofString " ") (r.map num)).length + (Str.ofString " tells ").length + (num t).length := by
        unfold lineS
        rw [strLen_append, strLen_append]
      have e2 : (Str.ofString " tells ").length = 7 := by decide
      have hn := lo.n
      have big : (20 : Nat) ≤ sizeLine := by decide
      refine ⟨r.map num, rfl, joinRow (mv := mv) lo.r3 lo.r9, ?_⟩
      refine ⟨_, _, rfl, rfl, by omega, ?_⟩
      refine strI_of (by omega) (by have := lo.t9; omega) ?_
      refine ⟨_, _, rfl, rfl, by rw [strLen_append]; omega, ?_⟩
      walk_at "w"
      refine ⟨szl (by rw [List.length_map]; have := List.length_take_le i (linesS mv tl); have := ok.s2; omega), ?_⟩
      refine hNX _ _ ⟨rfl, hi2, .val (rowD r), .val (.int t), .un, ?_⟩
      rw [List.take_add_one, lo.l, List.map_append]
      rfl
  · rintro ρ n' ⟨rfl, hi, x2, x3, x4, rfl⟩
    rw [zip_len, mvD_len, tlD_len, ok.l1, ok.l2, Nat.min_self, ← lines_len ok, List.take_length]
    unfold wb_law_text_2; walk_at "w"
    exact ⟨linesS mv tl, rfl, joinLines ok, hq⟩
theorem split_text {m s : Nat} {mv : List (List Int)} {tl : List Int} (ok : MOk m s mv tl) : Txt.split (textS mv tl) "\n" = linesS mv tl := by
  refine split_join (s := 10) (S := []) (by decide +kernel) (by decide +kernel) (fun z => ?_) fun p hp => ?_
  · have := congrArg List.length z
    rw [show ((mv.zip tl).map fun p => lineS p.1 p.2) = linesS mv tl from rfl, lines_len ok] at this
    have := ok.s1
    simp at *
    omega
  · obtain ⟨i, r, t, hi, rfl, hr, lo⟩ := lines_mem ok p hp
    have hne : r ≠ [] := fun z => by
      have := (ok.r r (List.mem_of_getElem? hr)).1
      have := ok.m1
      subst z
      simp at *
      omega
    intro hc
    unfold lineS at hc
    rw [tl_append, tl_append, join_eq, tl_join] at hc
    have nn : ∀ x : Int, 0 ≤ x → 10 ∉ TL.tl (num x) := fun x hx => by
      obtain ⟨k, rfl⟩ : ∃ k : Nat, x = (k : Int) := ⟨x.toNat, by omega⟩
      exact num_free (by decide)
    rcases List.mem_append.mp hc with hc | hc
    · rcases List.mem_append.mp hc with hc | hc
      · rcases joinL_mem hc with hc | ⟨p, hp, hc⟩
        · exact absurd hc (by decide +kernel)
        · rw [List.map_map] at hp
          obtain ⟨x, hx, rfl⟩ := List.mem_map.mp hp
          exact nn x (lo.r9 x hx).1 hc
      · exact absurd hc (by decide +kernel)
    · exact nn t (by omega) hc
theorem text_len {m s : Nat} {mv : List (List Int)} {tl : List Int} (ok : MOk m s mv tl) : (textS mv tl).length ≤ 600 := by
  have e : (TL.tl ("\n" : Str)).length = 1 := by decide +kernel
  rw [len_tl]
  unfold textS
  rw [join_eq, tl_join]
  refine Nat.le_trans joinL_len ?_
  rw [e, List.map_map, List.map_map, List.length_map, List.length_map]
  have e5 : ((mv.zip tl).map (((fun x : List Nat => x.length) ∘ TL.tl) ∘ fun p => lineS p.1 p.2)).sum = ((linesS mv tl).map (·.length)).sum := by
    unfold linesS
    rw [List.map_map]
    congr 1
  rw [e5]
  have := sumLe (c := 20) (l := linesS mv tl) fun x hx => by
    obtain ⟨i, r, t, _, rfl, _, h⟩ := lines_mem ok x hx
    exact h.n
  have hl := lines_len ok
  have hz : (mv.zip tl).length = s := by rw [List.length_zip, ok.l1, ok.l2, Nat.min_self]
  have := ok.s2
  omega
theorem h_read_teller : ∀ ds n Q, ds.length = 1 → c_read_teller ds n Q → wb_read_teller { nx := fun _ n' => Q .non n', rt := Q } (startD ["value", "lines", "moves", "tells", "place", "line", "read", "item", "number"] ds) n := by
  rintro ds n Q - ⟨m, s, mv, tl, rfl, ok, hq⟩
  show wb_read_teller _ [.val (.str (textS mv tl)), .un, .un, .un, .un, .un, .un, .un, .un] n
  unfold wb_read_teller; walk_at "w"
  rw [if_neg (by decide)]
  have htl := text_len ok
  unfold wb_read_teller_10; walk_at "w"
  refine ⟨_, rfl, by decide, by rw [sizeLine_eq]; omega, ?_⟩
  rw [split_text ok]
  walk_at "w"
  unfold wb_read_teller_9; walk_at "w"
  refine ⟨by decide, ?_⟩
  unfold wb_read_teller_8; walk_at "w"
  refine ⟨by decide, ?_⟩
  unfold wb_read_teller_7; walk_at "w"
  have hll : ((linesS mv tl).map D.str).length = s := by rw [List.length_map, lines_len ok]
  refine loop_inv (fun i ρ n' => n' = n ∧ i ≤ s ∧ ∃ x4 x5 x6 x7 x8, ρ = [.val (.str (textS mv tl)), .val (.lst ((linesS mv tl).map .str)), .own (mvD (mv.take i)), .own ((tl.take i).map .int), x4, x5, x6, x7, x8]) ?_ ⟨rfl, by omega, _, _, _, _, _, rfl⟩ ?_
  · rintro i d ρ n' hd ⟨rfl, hi, x4, x5, x6, x7, x8, rfl⟩ NX hNX
    obtain ⟨w, hw, rfl⟩ := enD_get hd
    have hi2 : i < s := by
      have := (List.getElem?_eq_some_iff.mp hw).1
      rw [hll] at this
      exact this
    obtain ⟨r, t, h1, h2, lo⟩ := line_at ok hi2
    obtain rfl : w = .str (lineS r t) := by
      rw [List.getElem?_map, lo.l] at hw
      exact (Option.some.inj hw).symm
    have hr := ok.r r (List.mem_of_getElem? h1)
    walk_at "w"
    unfold wb_read_teller_5; walk_at "w"
    rw [hll]
    refine ⟨m, s, r, t, rfl, hr.1, hr.2, lo.t9, ok.s1, ok.s2, ok.m1, ok.m3, ?_⟩
    unfold wb_read_teller_4; walk_at "w"
    have := ok.s2
    rw [if_neg (by omega)]
    unfold wb_read_teller_3; walk_at "w"
    have emv : mvD (mv.take i) ++ [rowD r] = mvD (mv.take (i + 1)) := by
      unfold mvD
      rw [List.take_add_one, h1, List.map_append]; rfl
    have etl : (tl.take i).map D.int ++ [.int t] = (tl.take (i + 1)).map D.int := by
      rw [List.take_add_one, h2, List.map_append]; rfl
    have one : ∀ x4 x5 x6, wb_read_teller_1 { nx := NX, rt := Q, bk := fun ρ1 n1 => wb_read_teller_6 { nx := fun _ n' => Q .non n', rt := Q } ρ1 n1, ct := NX } [.val (.str (textS mv tl)), .val (.lst ((linesS mv tl).map .str)), .own (mvD (mv.take i)), .own ((tl.take i).map .int), x4, x5, x6, .val (rowD r), .val (.int t)] n' := by
      intro x4 x5 x6
      unfold wb_read_teller_1; walk_at "w"
      refine ⟨szl (by have := List.length_take_le i mv; have := ok.l1; omega), szl (by rw [List.length_map]; have := List.length_take_le i tl; have := ok.l2; omega), ?_⟩
      rw [← rowD_def, emv, etl]
      exact hNX _ _ ⟨rfl, hi2, x4, x5, x6, .val (rowD r), .val (.int t), rfl⟩
    unfold wb_read_teller_2; walk_at "w"
    refine ⟨_, mvD (mv.take i), rfl, rfl, ?_⟩
    cases i with
    | zero =>
      rw [if_neg (by rw [List.take_zero]; decide)]
      exact one _ _ _
    | succ i =>
      obtain ⟨r0, t0, g1, g2, go⟩ := line_at ok (i := 0) (by omega)
      have g3 : (mvD (mv.take (i + 1)))[0]? = some (rowD r0) := by
        unfold mvD
        rw [List.getElem?_map, List.getElem?_take, if_pos (by omega), g1]; rfl
      have g5 : atI (mvD (mv.take (i + 1))) 0 = some (rowD r0) := by
        cases hL : mvD (mv.take (i + 1)) with
        | nil => rw [hL] at g3; cases g3
        | cons a L => rw [hL] at g3; rw [at0]; exact g3
      have g4 : (!(mvD (mv.take (i + 1))).isEmpty) = true := by
        cases hL : mvD (mv.take (i + 1)) with
        | nil => rw [hL] at g3; cases g3
        | cons a L => rfl
      have hr0 := ok.r r0 (List.mem_of_getElem? g1)
      rw [if_pos g4]
      refine ⟨_, rfl, r.map .int, rfl, ⟨_, rfl, _, rfl⟩, _, rfl, _, rfl, rowD r0, g5, r0.map .int, rfl, ?_⟩
      rw [if_neg (by rw [List.length_map, List.length_map, hr.1, hr0.1]; simp)]
      exact one _ _ _
  · rintro ρ n' ⟨rfl, hi, x4, x5, x6, x7, x8, rfl⟩
    rw [enD_length, hll, ← ok.l1, List.take_length, ok.l1, ← ok.l2, List.take_length]
    unfold wb_read_teller_6; walk_at "w"
    exact ⟨by decide, hq⟩
end Ly.K7

namespace Ly.K7
open PySem PySem.Spec PyProof.Rows L2
local macro_rules | `(tactic| walk_at "w") => `(tactic| try simp only [wRet, wRetN, wAndV, wOrV, wNotV, wCB, wCons, wNil, wV, wC, wChain, wTst, wTNot, wTAnd, wTOr, wIf, wOp, wIxN, wIx, wTup, wLst, wLenN, wSeq, wSkip, wIfS, wSet, wAsg, wgTup_iff, wgCons_iff, wgNil_iff, wgN, wCall, wCall0, wPar2, wPar3, wSl, woN, woS, wNeg, wDrop, wDct, wDct1, wListR1, wFor, wiR1, wiR2, wiSeq, wiEn, wiZip, wLc, wYes, wApp, wPop, wgIx,
  gIsi_iff, gLen_iff, gTuple_iff, gList_iff, gAll_iff, gI_iff, gAbs_iff, gMM_iff, gInt_iff, gEq_int, gEq_str, gEq_emp, listOf, gAdd_int, gAdd_tup, gAdd_lst, gAdd_lstN, gAdd_Nlst, gAdd_new, gMul_int, gMul_tup, gIsN_iff, gSl_tup, gSl_lst, gSl_new, sqL, sqT, sqN, ssL, ssT, ssO, dOf_val, dOf_new, svOf_val, svOf_new, kI_non, kI_bl, kI_int, kI_str, kI_tup, kI_lst, kI_dct, kI_dc0, kB_non, kB_bl, kB_int, kB_str, kB_tup, kB_lst, kB_dct, kB_dc0, kT_non, kT_bl, kT_int, kT_str, kT_tup, kT_lst, kT_dct, kT_dc0, kS_non, kS_bl, kS_int, kS_str, kS_tup, kS_lst, kS_dct, kS_dc0, wipeD,
  List.getElem?_cons_zero, List.getElem?_cons_succ, List.getElem?_nil, List.set_cons_zero, List.set_cons_succ, List.map_cons, List.map_nil, List.length_cons, List.length_nil, RV.val.injEq, RV.new.injEq, D.bl.injEq, D.int.injEq, D.str.injEq, D.tup.injEq, D.lst.injEq, SV.val.injEq, SV.own.injEq, Option.some.injEq, exists_eq_left', exists_eq_left, exists_and_left, exists_eq_right, true_and, and_true, Bool.not_true, Bool.not_false, Bool.false_eq_true, if_true, if_false, reduceIte, ite_self, Bool.true_xor, Bool.false_xor, Bool.not_eq_true', decide_eq_true_eq, List.cons.injEq, isNon, exists_eq, exists_eq', at0, at1, mvD_len, tlD_len, rowD_def, wDNew, wDGet, wDIn, wDPut, wDOne, wAugI, wTry, wRaise, wCallX, wInG, wExt, wCallK, wDc0, wRaiseF, wTryAs, wTryAs2, wXf, wIsX, wCallKX, wRevT, wGetC, wGIx, wGSort, wInG2, wRevL, wM1, wM0, wSlS, wFmt, wJoined, wJs, wReprN, dSV_val, dSV_own, lookD, pick, List.filterMap_cons, List.filterMap_nil, isOwnD, SV.ownD.injEq, svOf_newD, key_pair])
open TL (tl numL tl_num tl_append tl_join join_eq split_join ext_tl joinL numL_free len_tl)
theorem h_law_great : ∀ ds n Q, ds.length = 2 → c_law_great ds n Q → wb_law_great { nx := fun _ n' => Q .non n', rt := Q } (startD ["bag", "many", "moves", "state", "states", "back", "goal"] ds) n := by
  rintro ds n Q - ⟨a, m, rfl, h1, h2, hb, hr⟩
  show wb_law_great _ [.val _, .val _, .un, .un, .un, .un, .un] n
  unfold wb_law_great; walk_at "w"
  refine dr (by decide) (by decide) (by omega) fun s0 n1 hs1 c1 c2 => ?_
  have main : ∀ (bk : Bool) n2, n1 ≤ n2 → n2 ≤ n1 + 1 → wb_law_great_5 { nx := fun _ n' => Q .non n', rt := Q } [.val (.bag a), .val (.int m), .un, .un, .val (.int (5 + (s0 : Int))), .val (.bl bk), .un] n2 := by
    intro bk n2 d1 d2
    unfold wb_law_great_5; walk_at "w"
    refine ⟨by decide, ?_⟩
    unfold wb_law_great_4; walk_at "w"
    refine ⟨⟨by omega, by omega⟩, ?_⟩
    refine loop_inv (fun i ρ n' => ∃ (mv : List (List Int)) (x3 x6 : SV), ρ = [.val (.bag a), .val (.int m), .own (mvD mv), x3, .val (.int (5 + (s0 : Int))), .val (.bl bk), x6] ∧ mv.length = i ∧ (∀ r ∈ mv, r.length = m ∧ ∀ x ∈ r, 0 ≤ x ∧ x < (5 + (s0 : Int))) ∧ n' = n2)
      ?_ ⟨[], .un, .un, rfl, rfl, by simp, rfl⟩ ?_
    · rintro i d ρ n' hd ⟨mv, x3, x6, rfl, e1, e2, rfl⟩ NX hNX
      obtain ⟨hi, rfl⟩ := rgD_get hd
      walk_at "w"
      unfold wb_law_great_2; walk_at "w"
      have e5 : (0 : Int) + (i : Int) + 1 = ((i + 1 : Nat) : Int) := by omega
      have e6 : (5 : Int) + (s0 : Int) = ((5 + s0 : Nat) : Int) := by omega
      refine ⟨by omega, ?_⟩
      obtain ⟨gl, hgl, hgl2⟩ : ∃ gl : Int, (0 + (i : Int) + 1).fmod (5 + (s0 : Int)) = gl ∧ 0 ≤ gl ∧ gl < 5 + (s0 : Int) := ⟨_, rfl, Int.fmod_nonneg_of_pos _ (by omega), Int.fmod_lt_of_pos _ (by omega)⟩
      rw [hgl]
      unfold wb_law_great_1; walk_at "w"
      have en : (List.replicate ((m : Int) - 1).toNat [D.int gl]).flatten = (List.replicate (m - 1) gl).map D.int := by
        rw [show ((m : Int) - 1).toNat = m - 1 by omega]
        generalize m - 1 = z
        induction z with
        | zero => rfl
        | succ z ih => rw [List.replicate_succ, List.flatten_cons, ih, List.replicate_succ]; rfl
      have last : ∀ z : Int, 0 ≤ z → z < 5 + (s0 : Int) → 0 + 1 ≤ sizeLine ∧ (List.replicate ((m : Int) - 1).toNat [D.int gl]).flatten.length + (0 + 1) ≤ sizeLine ∧ mv.length < sizeLine ∧
          NX [.val (.bag a), .val (.int (m : Int)), .own (mvD mv ++ [.tup ((List.replicate ((m : Int) - 1).toNat [D.int gl]).flatten ++ [.int z])]), .val (.int (0 + (i : Int))), .val (.int (5 + (s0 : Int))), .val (.bl bk), .val (.int gl)] n' := by
        intro z z0 z1
        rw [en]
        refine ⟨by decide, sz (by rw [List.length_map, List.length_replicate]; omega), szl (by omega), hNX _ _ ⟨mv ++ [List.replicate (m - 1) gl ++ [z]], .val (.int (0 + (i : Int))), .val (.int gl), ?_, by simp [e1], ?_, rfl⟩⟩
        · simp only [mvD, List.map_append, List.map_cons, List.map_nil, rowD]
        · intro q hq
          rcases List.mem_append.mp hq with hq | hq
          · exact e2 q hq
          · simp only [List.mem_cons, List.not_mem_nil, or_false] at hq
            subst hq
            refine ⟨by rw [List.length_append, List.length_replicate]; simp only [List.length_cons, List.length_nil]; omega, fun x hx => ?_⟩
            rcases List.mem_append.mp hx with hx | hx
            · rw [(List.mem_replicate.mp hx).2]; exact ⟨hgl2.1, hgl2.2⟩
            · simp at hx; subst hx; exact ⟨z0, z1⟩
      refine ⟨by decide, by simp, by omega, by omega, by decide, ?_⟩
      cases bk with
      | true => rw [if_pos rfl]; exact last 0 (by omega) (by omega)
      | false => rw [if_neg (by decide)]; exact last gl hgl2.1 hgl2.2
    · rintro ρ n' ⟨mv, x3, x6, rfl, e1, e2, rfl⟩
      rw [rgD_len] at e1
      unfold wb_law_great_3; walk_at "w"
      refine ⟨⟨by omega, by omega⟩, ?_⟩
      refine comp_map (fun _ d => ∃ k, d = .int k ∧ 0 ≤ k ∧ k ≤ 1) 1 ?_ (by rw [rgD_len]; omega) ?_
      · intro j d n2 hd b1 b2 K2 hK2
        rw [show (5 + (s0 : Int)).toNat = 5 + s0 by omega] at hd
        obtain ⟨hj, rfl⟩ := rgD_get hd
        have := Nat.mul_le_mul_left 1 (Nat.le_of_lt hj)
        walk_at "w"
        refine dr (by decide) (by decide) (by omega) fun k n3 hk f1 f2 => ?_
        exact hK2 _ _ _ ⟨_, rfl, by omega, by omega⟩ rfl f1 f2
      · intro l n2 hl hP b1 b2
        rw [rgD_len, show (5 + (s0 : Int)).toNat = 5 + s0 by omega] at hl b2
        obtain ⟨tl, rfl, htl⟩ := all_ints hP
        rw [List.length_map] at hl
        refine ⟨by decide, hr _ _ ⟨5 + s0, by omega, by omega, mv, tl, rfl, by omega, hl, fun r hr => ⟨(e2 r hr).1, fun x hx => ?_⟩, fun x hx => htl x hx⟩ (by omega) (by omega)⟩
        have := (e2 r hr).2 x hx
        omega
  rw [gAdd_int]
  by_cases hm : (1 : Int) < (m : Int)
  · rw [if_pos hm]
    refine dr (by decide) (by decide) (by omega) fun k n2 hk f1 f2 => ?_
    walk_at "w"
    exact ⟨_, _, ⟨rfl, rfl⟩, main _ _ f1 f2⟩
  · rw [if_neg hm]
    exact ⟨_, _, ⟨rfl, rfl⟩, main _ _ (Nat.le_refl _) (by omega)⟩
theorem gEq_rep {ne : Bool} {d e : D} {R : RV → Prop} (h : d = e) (q : R (.val (.bl (!ne)))) : gEq ne (.val (.str (reprD d))) (.val (.str (reprD e))) R := by
  subst h
  show R (.val (.bl (xor ne (decide (_ = _)))))
  rw [decide_eq_true rfl, Bool.xor_true]
  exact q
def Good (d : D) : Prop := ∃ m s mv tl, d = mD mv tl ∧ MOk m s mv tl
theorem good_of {m s : Nat} {t : Int} {d : D} (h : Mach m s t d) (ht : t ≤ 99) (s1 : 1 ≤ s) (s2 : s ≤ 24) (m1 : 1 ≤ m) (m3 : m ≤ 3) : Good d := by
  obtain ⟨mv, tl, e, h1, h2, h3, h4⟩ := h
  exact ⟨m, s, mv, tl, e, h1, h2, h3, fun x hx => ⟨(h4 x hx).1, by have := (h4 x hx).2; omega⟩, s1, s2, m1, m3⟩
theorem shR_str {t : Str} (h : t.length ≤ 60000) (hc : ∀ c ∈ t.cps.toList, c < 16 ^ 8) : ShR 0 600002 (.str t) :=
  ⟨.str t, rfl, rfl, rfl, Nat.le_refl _, Nat.le_trans (PySem.StrLaws.reprText_len t hc) (by omega)⟩
theorem num_small {x : Int} (h : 0 ≤ x) : ∀ c ∈ tl (num x), c < 128 := fun c hc => by
  obtain ⟨k, rfl⟩ : ∃ k : Nat, x = (k : Int) := ⟨x.toNat, by omega⟩
  by_cases h : 57 < c
  · exact absurd hc (num_free (.inr h))
  · omega
theorem line_small {r : List Int} {t : Int} (h : ∀ x ∈ r, 0 ≤ x) (ht : 0 ≤ t) : ∀ c ∈ tl (lineS r t), c < 128 := fun c hc => by
  unfold lineS at hc
  rw [tl_append, tl_append, join_eq, tl_join] at hc
  rcases List.mem_append.mp hc with hc | hc
  · rcases List.mem_append.mp hc with hc | hc
    · rcases joinL_mem hc with hc | ⟨p, hp, hc⟩
      · exact (by decide +kernel : ∀ c ∈ tl (" " : Str), c < 128) c hc
      · rw [List.map_map] at hp
        obtain ⟨x, hx, rfl⟩ := List.mem_map.mp hp
        exact num_small (h x hx) c hc
    · exact (by decide +kernel : ∀ c ∈ tl (" tells " : Str), c < 128) c hc
  · exact num_small ht c hc
theorem text_small {m s : Nat} {mv : List (List Int)} {tl : List Int} (ok : MOk m s mv tl) : ∀ c ∈ TL.tl (textS mv tl), c < 128 := fun c hc => by
  unfold textS at hc
  rw [join_eq, tl_join] at hc
  rcases joinL_mem hc with hc | ⟨p, hp, hc⟩
  · exact (by decide +kernel : ∀ c ∈ TL.tl ("\n" : Str), c < 128) c hc
  · obtain ⟨x, hx, rfl⟩ := List.mem_map.mp hp
    obtain ⟨i, r, t, _, rfl, _, lo⟩ := lines_mem ok x hx
    exact line_small (fun x hx => (lo.r9 x hx).1) (by omega) c hc
theorem text_sh {m s : Nat} {mv : List (List Int)} {tl : List Int} (ok : MOk m s mv tl) : ShR 0 600002 (.str (textS mv tl)) :=
  shR_str (Nat.le_trans (text_len ok) (by decide)) fun c hc => Nat.lt_trans (text_small ok c hc) (by decide)
theorem int_sh {x : Int} (h0 : 0 ≤ x) (h : x ≤ 99) : ShR 0 3 (.int x) := shR_int (k := 2) (by decide) (by decide) (by omega)
theorem mach_sh {m s : Nat} {mv : List (List Int)} {tl : List Int} (ok : MOk m s mv tl) : ShR 4 100000 (mD mv tl) := by
  have a : ShR 2 1000 (.tup (mvD mv)) := (shR_tup (k := 1) (b := 20) fun d hd => by
    unfold mvD at hd
    obtain ⟨r, hr, rfl⟩ := List.mem_map.mp hd
    have h := ok.r r hr
    refine (shR_tup (k := 0) (b := 3) fun d hd => ?_).mono (by decide) (by rw [List.length_map]; have := ok.m3; omega)
    obtain ⟨x, hx, rfl⟩ := List.mem_map.mp hd
    have h9 := h.2 x hx
    have := ok.s2
    exact int_sh h9.1 (by omega)).mono (by decide) (by rw [mvD_len]; have := ok.l1; have := ok.s2; omega)
  have b : ShR 1 1000 (.tup (tlD tl)) := (shR_tup (k := 0) (b := 3) fun d hd => by
    unfold tlD at hd
    obtain ⟨x, hx, rfl⟩ := List.mem_map.mp hd
    have := ok.t x hx
    exact int_sh this.1 this.2).mono (by decide) (by rw [tlD_len]; have := ok.l2; have := ok.s2; omega)
  unfold mD
  refine (shR_tup (k := 2) (b := 1000) fun d hd => ?_).mono (by decide) (by simp)
  simp only [List.mem_cons, List.not_mem_nil, or_false] at hd
  rcases hd with rfl | rfl
  · exact a
  · exact b.mono (by decide) (by decide)
theorem h_law : ∀ ds n Q, ds.length = 1 → c_law ds n Q → wb_law { nx := fun _ n' => Q .non n', rt := Q } (startD ["script", "jar", "beside", "odd", "some", "own", "machine", "other", "line"] ds) n := by
  rintro ds n Q - ⟨ns, rfl, hns, rfl, hq⟩
  show wb_law _ [.val _, .un, .un, .un, .un, .un, .un, .un, .un] 0
  unfold wb_law; walk_at "w"
  refine ⟨ns, rfl, hns, fun a => ?_⟩
  unfold wb_law_9; walk_at "w"
  refine ⟨a, rfl, by omega, ?_⟩
  rintro mch n1 ⟨m, s, m1, m3, s1, s2, hm⟩ c1 c2
  refine ⟨a, 3, rfl, by decide, by decide, by omega, ?_⟩
  rintro _ n2 ⟨k, rfl, k0, k1⟩ c3 c4
  obtain ⟨k, rfl⟩ : ∃ z : Nat, k = (z : Int) := ⟨k.toNat, by omega⟩
  rw [gAdd_int]
  refine ⟨a, 1 + k, rfl, by omega, by omega, by omega, ?_⟩
  rintro gr n3 ⟨s', g1, g2, hg⟩ c5 c6
  refine ⟨_, _, ⟨rfl, rfl⟩, ?_⟩
  unfold wb_law_8; walk_at "w"
  refine ⟨a, mch, s, m, 99, rfl, s1, s2, m1, m3, hm, by omega, ?_⟩
  rintro wd n4 ⟨u, u1, u2, hw, _⟩ c7 c8
  unfold wb_law_7; walk_at "w"
  refine ⟨a, 24, rfl, by decide, by decide, by omega, ?_⟩
  rintro _ n5 ⟨k2, rfl, k20, k21⟩ c9 c10
  obtain ⟨k2, rfl⟩ : ∃ z : Nat, k2 = (z : Int) := ⟨k2.toNat, by omega⟩
  rw [gAdd_int]
  refine ⟨a, 3, rfl, by decide, by decide, by omega, ?_⟩
  rintro _ n6 ⟨k3, rfl, k30, k31⟩ c11 c12
  obtain ⟨k3, rfl⟩ : ∃ z : Nat, k3 = (z : Int) := ⟨k3.toNat, by omega⟩
  rw [gAdd_int]
  refine ⟨a, 1 + k2, 1 + k3, 99, rfl, by omega, by omega, by omega, by omega, by omega, by omega, by omega, ?_⟩
  rintro an n7 ha c13 c14
  unfold wb_law_6; walk_at "w"
  refine ⟨a, wd, u, m, 99, rfl, by omega, u2, m1, m3, by omega, hw, by omega, ?_⟩
  rintro b1 n8 hb1 c15 c16
  refine ⟨a, gr, s', 1 + k, 1, rfl, by omega, g2, by omega, by omega, by omega, hg, by omega, ?_⟩
  rintro b2 n9 hb2 c17 c18
  refine ⟨by decide, ?_⟩
  have G1 : Good mch := good_of hm (by omega) s1 s2 m1 m3
  have G2 : Good wd := good_of hw (by omega) (by omega) u2 m1 m3
  have G3 : Good gr := good_of hg (by omega) (by omega) g2 (by omega) (by omega)
  have G4 : Good b1 := good_of hb1 (by omega) (by omega) u2 m1 m3
  have G5 : Good an := good_of ha (by omega) (by omega) (by omega) (by omega) (by omega)
  have G6 : Good b2 := good_of hb2 (by omega) (by omega) g2 (by omega) (by omega)
  clear hm hg hw ha hb1 hb2
  have G : ∀ d ∈ [mch, wd, gr, b1, an, b2, mch], Good d := fun d hd => by
    simp only [List.mem_cons, List.not_mem_nil, or_false] at hd
    rcases hd with rfl | rfl | rfl | rfl | rfl | rfl | rfl <;> assumption
  unfold wb_law_5; walk_at "w"
  refine loop_inv (fun i ρ n' => ∃ x5 x8, ρ = [.val (.scr ns), .val (.bag a), .val wd, .val an, .val (.lst [mch, wd, gr, b1, an, b2, mch]), x5, .val mch, .val gr, x8]) ?_ ⟨_, _, rfl⟩ ?_
  · rintro i d ρ n' hd ⟨x5, x8, rfl⟩ NX hNX
    obtain ⟨m, s, mv, tl, rfl, ok⟩ := G d (List.mem_of_getElem? hd)
    walk_at "w"
    unfold wb_law_2; walk_at "w"
    refine ⟨m, s, mv, tl, rfl, ok, ?_⟩
    unfold wb_law_1; walk_at "w"
    refine ⟨_, _, text_sh ok, by decide, by decide, ?_⟩
    refine ⟨m, s, mv, tl, rfl, ok, ?_⟩
    refine gReprR_of (r := .val (.str (textS mv tl))) (text_sh ok) (by decide) (by decide) ?_
    refine gEq_rep rfl ?_
    refine ⟨false, rfl, ?_⟩
    rw [if_neg (by decide)]
    refine ⟨m, s, mv, tl, rfl, ok, ?_⟩
    refine gReprR_of (r := .val (mD mv tl)) (mach_sh ok) (by decide) (by decide) ?_
    refine ⟨_, _, mach_sh ok, by decide, by decide, ?_⟩
    refine gEq_rep rfl ?_
    refine ⟨false, rfl, ?_⟩
    rw [if_neg (by decide)]
    exact hNX _ _ ⟨_, _, rfl⟩
  · rintro ρ n' ⟨x5, x8, rfl⟩
    unfold wb_law_4; walk_at "w"
    have cut : cutD [mch, wd, gr, b1, an, b2, mch] (some 1) (some 4) = [wd, gr, b1] := rfl
    rw [cut]
    refine loop_inv (fun i ρ n' => ∃ x5, ρ = [.val (.scr ns), .val (.bag a), .val wd, .val an, .val (.lst [mch, wd, gr, b1, an, b2, mch]), x5, .val mch, .val gr, x8]) ?_ ⟨_, rfl⟩ ?_
    · rintro i d ρ n' hd ⟨x5, rfl⟩ NX hNX
      have hm := List.mem_of_getElem? hd
      obtain ⟨m, s, mv, tl, rfl, ok⟩ := G d (by
        simp only [List.mem_cons, List.not_mem_nil, or_false] at hm ⊢
        rcases hm with rfl | rfl | rfl <;> simp)
      walk_at "w"
      unfold wb_law_3; walk_at "w"
      refine ⟨m, s, mv, tl, rfl, ok, ?_⟩
      refine ⟨m, s, mv, tl, rfl, ok, ?_⟩
      refine gReprR_of (r := .val (mD mv tl)) (mach_sh ok) (by decide) (by decide) ?_
      refine ⟨_, _, mach_sh ok, by decide, by decide, ?_⟩
      refine gEq_rep rfl ?_
      refine ⟨false, rfl, ?_⟩
      rw [if_neg (by decide)]
      exact hNX _ _ ⟨_, rfl⟩
    · rintro ρ n' ⟨x5, rfl⟩
      walk_at "w"
      exact hq _
end Ly.K7

namespace Ly.K7
open PySem PySem.Spec PyProof.Rows L2 
section
variable {P : Program} {w : World} {K : PySem.W.Frag} {mg : Str → Option Value} {base : Heap}
theorem okk_read_number (T : Txt K mg) : ok_read_number P w base T := def_ok T.F_read_number sc_read_number rfl (fun cdv A outer s H E B hr => dss_read_number T  hr) h_read_number
theorem okk_teller_text (T : Txt K mg) : ok_teller_text P w base T := def_ok T.F_teller_text sc_teller_text rfl (fun cdv A outer s H E B hr => dss_teller_text T  hr) h_teller_text
theorem okk_read_line (T : Txt K mg) : ok_read_line P w base T := def_ok T.F_read_line sc_read_line rfl (fun cdv A outer s H E B hr => dss_read_line T (okk_read_number T) hr) h_read_line
theorem okk_read_teller (T : Txt K mg) : ok_read_teller P w base T := def_ok T.F_read_teller sc_read_teller rfl (fun cdv A outer s H E B hr => dss_read_teller T (okk_read_line T) hr) h_read_teller
theorem okk_law_bag (T : Txt K mg) : ok_law_bag P w base T := ok_bag T
theorem okk_law_draw (T : Txt K mg) : ok_law_draw P w base T := ok_draw T
theorem okk_law_pick (T : Txt K mg) : ok_law_pick P w base T := def_ok T.F_law_pick sc_law_pick rfl (fun cdv A outer s H E B hr => dss_law_pick T (okk_law_draw T) hr) h_law_pick
theorem okk_law_known (T : Txt K mg) : ok_law_known P w base T := def_ok T.F_law_known sc_law_known rfl (fun cdv A outer s H E B hr => dss_law_known T  hr) h_law_known
theorem okk_law_names (T : Txt K mg) : ok_law_names P w base T := def_ok T.F_law_names sc_law_names rfl (fun cdv A outer s H E B hr => dss_law_names T  hr) h_law_names
theorem okk_law_any (T : Txt K mg) : ok_law_any P w base T := def_ok T.F_law_any sc_law_any rfl (fun cdv A outer s H E B hr => dss_law_any T (okk_law_draw T) hr) h_law_any
theorem okk_law_growing (T : Txt K mg) : ok_law_growing P w base T := def_ok T.F_law_growing sc_law_growing rfl (fun cdv A outer s H E B hr => dss_law_growing T (okk_law_draw T) hr) h_law_growing
theorem okk_law_bent (T : Txt K mg) : ok_law_bent P w base T := def_ok T.F_law_bent sc_law_bent rfl (fun cdv A outer s H E B hr => dss_law_bent T (okk_law_draw T) (okk_law_pick T) hr) h_law_bent
theorem okk_law_by_length (T : Txt K mg) : ok_law_by_length P w base T := def_ok T.F_law_by_length sc_law_by_length rfl (fun cdv A outer s H E B hr => dss_law_by_length T  hr) h_law_by_length
theorem okk_law_both (T : Txt K mg) : ok_law_both P w base T := def_ok T.F_law_both sc_law_both rfl (fun cdv A outer s H E B hr => dss_law_both T  hr) h_law_both
theorem okk_law_machine (T : Txt K mg) : ok_law_machine P w base T := def_ok T.F_law_machine sc_law_machine rfl (fun cdv A outer s H E B hr => dss_law_machine T (okk_law_pick T) (okk_law_draw T) (okk_law_any T) (okk_law_growing T) (okk_law_known T) (okk_law_names T) (okk_law_bent T) (okk_law_both T) (okk_law_by_length T) hr) h_law_machine
theorem okk_law_great (T : Txt K mg) : ok_law_great P w base T := def_ok T.F_law_great sc_law_great rfl (fun cdv A outer s H E B hr => dss_law_great T (okk_law_draw T) hr) h_law_great
theorem okk_law_split (T : Txt K mg) : ok_law_split P w base T := def_ok T.F_law_split sc_law_split rfl (fun cdv A outer s H E B hr => dss_law_split T (okk_law_draw T) (okk_law_pick T) hr) h_law_split
theorem okk_law_wide (T : Txt K mg) : ok_law_wide P w base T := def_ok T.F_law_wide sc_law_wide rfl (fun cdv A outer s H E B hr => dss_law_wide T (okk_law_split T) (okk_law_pick T) (okk_law_draw T) hr) h_law_wide
theorem okk_law_text (T : Txt K mg) : ok_law_text P w base T := def_ok T.F_law_text sc_law_text rfl (fun cdv A outer s H E B hr => dss_law_text T  hr) h_law_text
theorem okk_law (T : Txt K mg) : FnG P w K mg base 5 T.a_law T.d_law p_law (spC K 1 c_law) := def_okG T.F_law sc_law rfl (fun cdv A outer s H E B hg hr => dss_law T (okk_law_bag T) (okk_law_great T) (okk_law_draw T) (okk_law_machine T) (okk_law_wide T) (okk_law_any T) (okk_law_bent T) (okk_teller_text T) (okk_law_text T) (okk_read_teller T) hr hg) h_law
def txt {h : Heap} (kin : K.In h) (G : h.Ns mainGlobals mg)
    (b_abs : PySem.W.nsIn K mainGlobals "abs" = some none)
    (b_enumerate : PySem.W.nsIn K mainGlobals "enumerate" = some none)
    (b_int : PySem.W.nsIn K mainGlobals "int" = some none)
    (b_isinstance : PySem.W.nsIn K mainGlobals "isinstance" = some none)
    (b_len : PySem.W.nsIn K mainGlobals "len" = some none)
    (b_list : PySem.W.nsIn K mainGlobals "list" = some none)
    (b_min : PySem.W.nsIn K mainGlobals "min" = some none)
    (b_range : PySem.W.nsIn K mainGlobals "range" = some none)
    (b_repr : PySem.W.nsIn K mainGlobals "repr" = some none)
    (b_str : PySem.W.nsIn K mainGlobals "str" = some none)
    (b_tuple : PySem.W.nsIn K mainGlobals "tuple" = some none)
    (b_zip : PySem.W.nsIn K mainGlobals "zip" = some none)
    {t_MAX_KINDS : Tok} (c_MAX_KINDS : PySem.W.nsIn K mainGlobals "MAX_KINDS" = some (some (.int 3 t_MAX_KINDS)))
    {t_MAX_STATES : Tok} (c_MAX_STATES : PySem.W.nsIn K mainGlobals "MAX_STATES" = some (some (.int 24 t_MAX_STATES)))
    {t_MAX_TOLD : Tok} (c_MAX_TOLD : PySem.W.nsIn K mainGlobals "MAX_TOLD" = some (some (.int 99 t_MAX_TOLD)))
    (D_read_number : HD K mg "read_number" s_read_number p_read_number)
    (D_teller_text : HD K mg "teller_text" s_teller_text p_teller_text)
    (D_read_teller : HD K mg "read_teller" s_read_teller p_read_teller)
    (D_read_line : HD K mg "_read_line" s_read_line p_read_line)
    (D_law_bag : HD K mg "_law_bag" s_law_bag p_law_bag)
    (D_law_draw : HD K mg "_law_draw" s_law_draw p_law_draw)
    (D_law_pick : HD K mg "_law_pick" s_law_pick p_law_pick)
    (D_law_known : HD K mg "_law_known" s_law_known p_law_known)
    (D_law_names : HD K mg "_law_names" s_law_names p_law_names)
    (D_law_any : HD K mg "_law_any" s_law_any p_law_any)
    (D_law_growing : HD K mg "_law_growing" s_law_growing p_law_growing)
    (D_law_bent : HD K mg "_law_bent" s_law_bent p_law_bent)
    (D_law_by_length : HD K mg "_law_by_length" s_law_by_length p_law_by_length)
    (D_law_both : HD K mg "_law_both" s_law_both p_law_both)
    (D_law_machine : HD K mg "_law_machine" s_law_machine p_law_machine)
    (D_law_great : HD K mg "_law_great" s_law_great p_law_great)
    (D_law_split : HD K mg "_law_split" s_law_split p_law_split)
    (D_law_wide : HD K mg "_law_wide" s_law_wide p_law_wide)
    (D_law_text : HD K mg "_law_text" s_law_text p_law_text)
    (D_law : HD K mg "law" s_law p_law)
    : Txt K mg where
  n_abs := PySem.W.mg_none_of kin G b_abs
  n_enumerate := PySem.W.mg_none_of kin G b_enumerate
  n_int := PySem.W.mg_none_of kin G b_int
  n_isinstance := PySem.W.mg_none_of kin G b_isinstance
  n_len := PySem.W.mg_none_of kin G b_len
  n_list := PySem.W.mg_none_of kin G b_list
  n_min := PySem.W.mg_none_of kin G b_min
  n_range := PySem.W.mg_none_of kin G b_range
  n_repr := PySem.W.mg_none_of kin G b_repr
  n_str := PySem.W.mg_none_of kin G b_str
  n_tuple := PySem.W.mg_none_of kin G b_tuple
  n_zip := PySem.W.mg_none_of kin G b_zip
  t_MAX_KINDS := _
  c_MAX_KINDS := PySem.W.mg_of kin G c_MAX_KINDS
  t_MAX_STATES := _
  c_MAX_STATES := PySem.W.mg_of kin G c_MAX_STATES
  t_MAX_TOLD := _
  c_MAX_TOLD := PySem.W.mg_of kin G c_MAX_TOLD
  a_read_number := D_read_number.f
  d_read_number := D_read_number.fd
  F_read_number := D_read_number.F
  b_read_number := D_read_number.b
  g_read_number := D_read_number.g
  a_teller_text := D_teller_text.f
  d_teller_text := D_teller_text.fd
  F_teller_text := D_teller_text.F
  b_teller_text := D_teller_text.b
  g_teller_text := D_teller_text.g
  a_read_teller := D_read_teller.f
  d_read_teller := D_read_teller.fd
  F_read_teller := D_read_teller.F
  b_read_teller := D_read_teller.b
  g_read_teller := D_read_teller.g
  a_read_line := D_read_line.f
  d_read_line := D_read_line.fd
  F_read_line := D_read_line.F
  b_read_line := D_read_line.b
  g_read_line := D_read_line.g
  a_law_bag := D_law_bag.f
  d_law_bag := D_law_bag.fd
  F_law_bag := D_law_bag.F
  b_law_bag := D_law_bag.b
  g_law_bag := D_law_bag.g
  a_law_draw := D_law_draw.f
  d_law_draw := D_law_draw.fd
  F_law_draw := D_law_draw.F
  b_law_draw := D_law_draw.b
  g_law_draw := D_law_draw.g
  a_law_pick := D_law_pick.f
  d_law_pick := D_law_pick.fd
  F_law_pick := D_law_pick.F
  b_law_pick := D_law_pick.b
  g_law_pick := D_law_pick.g
  a_law_known := D_law_known.f
  d_law_known := D_law_known.fd
  F_law_known := D_law_known.F
  b_law_known := D_law_known.b
  g_law_known := D_law_known.g
  a_law_names := D_law_names.f
  d_law_names := D_law_names.fd
  F_law_names := D_law_names.F
  b_law_names := D_law_names.b
  g_law_names := D_law_names.g
  a_law_any := D_law_any.f
  d_law_any := D_law_any.fd
  F_law_any := D_law_any.F
  b_law_any := D_law_any.b
  g_law_any := D_law_any.g
  a_law_growing := D_law_growing.f
  d_law_growing := D_law_growing.fd
  F_law_growing := D_law_growing.F
  b_law_growing := D_law_growing.b
  g_law_growing := D_law_growing.g
  a_law_bent := D_law_bent.f
  d_law_bent := D_law_bent.fd
  F_law_bent := D_law_bent.F
  b_law_bent := D_law_bent.b
  g_law_bent := D_law_bent.g
  a_law_by_length := D_law_by_length.f
  d_law_by_length := D_law_by_length.fd
  F_law_by_length := D_law_by_length.F
  b_law_by_length := D_law_by_length.b
  g_law_by_length := D_law_by_length.g
  a_law_both := D_law_both.f
  d_law_both := D_law_both.fd
  F_law_both := D_law_both.F
  b_law_both := D_law_both.b
  g_law_both := D_law_both.g
  a_law_machine := D_law_machine.f
  d_law_machine := D_law_machine.fd
  F_law_machine := D_law_machine.F
  b_law_machine := D_law_machine.b
  g_law_machine := D_law_machine.g
  a_law_great := D_law_great.f
  d_law_great := D_law_great.fd
  F_law_great := D_law_great.F
  b_law_great := D_law_great.b
  g_law_great := D_law_great.g
  a_law_split := D_law_split.f
  d_law_split := D_law_split.fd
  F_law_split := D_law_split.F
  b_law_split := D_law_split.b
  g_law_split := D_law_split.g
  a_law_wide := D_law_wide.f
  d_law_wide := D_law_wide.fd
  F_law_wide := D_law_wide.F
  b_law_wide := D_law_wide.b
  g_law_wide := D_law_wide.g
  a_law_text := D_law_text.f
  d_law_text := D_law_text.fd
  F_law_text := D_law_text.F
  b_law_text := D_law_text.b
  g_law_text := D_law_text.g
  a_law := D_law.f
  d_law := D_law.fd
  F_law := D_law.F
  b_law := D_law.b
  g_law := D_law.g
theorem all_of {fa : Addr} (T : Txt K mg) (hfa : mg "law" = some (.ref fa)) : ∃ fd : FuncData, Binds K fd ["script"] [] ∧ ∀ base : Heap, K.In base → base.Ns mainGlobals mg → FnG P w K mg base 5 fa fd ["script"] (spC K 1 c_law) := by
  cases hfa.symm.trans T.g_law
  exact ⟨T.d_law, T.b_law, fun base _ _ => okk_law T⟩
end
end Ly.K7
open PySem PySem.W PyProof.Rows
set_option maxHeartbeats 0 in
theorem PySem.Challenge.cw_endkeepers_k07_whole_texts_of_tellers_holds : PySem.Challenge.rw_endkeepers_k07_whole_texts_of_tellers.Holds := by
  w_on; o_law; k_head; (case hw => w_witness2)
  k_fill
  refine Ly.walkG (l := PySem.Challenge.rw_endkeepers_k07_whole_texts_of_tellers) (n := 63) (k := 5) (x := "script") (sp := fun w => Ly.spC _ 1 Ly.c_law) rfl (by decide) rfl ⟨rfl, by decide, by decide⟩ (fun w h Y => PySem.W.kIn_of Y) ?F (fun _ _ a ns hl hO hS => Ly.spLaw (fun Q hQ => ⟨ns, rfl, hl, rfl, hQ⟩) hO hS)
  case F =>
    intro w mg fa h kin G hmg
    refine' Ly.K7.all_of (Ly.K7.txt kin G ?b_abs ?b_enumerate ?b_int ?b_isinstance ?b_len ?b_list ?b_min ?b_range ?b_repr ?b_str ?b_tuple ?b_zip ?c_MAX_KINDS ?c_MAX_STATES ?c_MAX_TOLD
      (Ly.headOf (fun _ _ _ _ _ _ us hl => match us, hl with | [_, _], _ => rfl) kin G ?a_read_number ?l_read_number ?o_read_number ?k_read_number)
      (Ly.headOf (fun _ _ _ _ _ _ us hl => match us, hl with | [_], _ => rfl) kin G ?a_teller_text ?l_teller_text ?o_teller_text ?k_teller_text)
      (Ly.headOf (fun _ _ _ _ _ _ us hl => match us, hl with | [_], _ => rfl) kin G ?a_read_teller ?l_read_teller ?o_read_teller ?k_read_teller)
      (Ly.headOf (fun _ _ _ _ _ _ us hl => match us, hl with | [_, _], _ => rfl) kin G ?a_read_line ?l_read_line ?o_read_line ?k_read_line)
      (Ly.headOf (fun _ _ _ _ _ _ us hl => match us, hl with | [_], _ => rfl) kin G ?a_law_bag ?l_law_bag ?o_law_bag ?k_law_bag)
      (Ly.headOf (fun _ _ _ _ _ _ us hl => match us, hl with | [_, _], _ => rfl) kin G ?a_law_draw ?l_law_draw ?o_law_draw ?k_law_draw)
      (Ly.headOf (fun _ _ _ _ _ _ us hl => match us, hl with | [_, _], _ => rfl) kin G ?a_law_pick ?l_law_pick ?o_law_pick ?k_law_pick)
      (Ly.headOf (fun _ _ _ _ _ _ us hl => match us, hl with | [_, _], _ => rfl) kin G ?a_law_known ?l_law_known ?o_law_known ?k_law_known)
      (Ly.headOf (fun _ _ _ _ _ _ us hl => match us, hl with | [], _ => rfl) kin G ?a_law_names ?l_law_names ?o_law_names ?k_law_names)
      (Ly.headOf (fun _ _ _ _ _ _ us hl => match us, hl with | [_, _, _, _], _ => rfl) kin G ?a_law_any ?l_law_any ?o_law_any ?k_law_any)
      (Ly.headOf (fun _ _ _ _ _ _ us hl => match us, hl with | [_, _, _, _], _ => rfl) kin G ?a_law_growing ?l_law_growing ?o_law_growing ?k_law_growing)
      (Ly.headOf (fun _ _ _ _ _ _ us hl => match us, hl with | [_, _], _ => rfl) kin G ?a_law_bent ?l_law_bent ?o_law_bent ?k_law_bent)
      (Ly.headOf (fun _ _ _ _ _ _ us hl => match us, hl with | [_, _], _ => rfl) kin G ?a_law_by_length ?l_law_by_length ?o_law_by_length ?k_law_by_length)
      (Ly.headOf (fun _ _ _ _ _ _ us hl => match us, hl with | [_, _], _ => rfl) kin G ?a_law_both ?l_law_both ?o_law_both ?k_law_both)
      (Ly.headOf (fun _ _ _ _ _ _ us hl => match us, hl with | [_], _ => rfl) kin G ?a_law_machine ?l_law_machine ?o_law_machine ?k_law_machine)
      (Ly.headOf (fun _ _ _ _ _ _ us hl => match us, hl with | [_, _], _ => rfl) kin G ?a_law_great ?l_law_great ?o_law_great ?k_law_great)
      (Ly.headOf (fun _ _ _ _ _ _ us hl => match us, hl with | [_, _, _], _ => rfl) kin G ?a_law_split ?l_law_split ?o_law_split ?k_law_split)
      (Ly.headOf (fun _ _ _ _ _ _ us hl => match us, hl with | [_, _], _ => rfl) kin G ?a_law_wide ?l_law_wide ?o_law_wide ?k_law_wide)
      (Ly.headOf (fun _ _ _ _ _ _ us hl => match us, hl with | [_], _ => rfl) kin G ?a_law_text ?l_law_text ?o_law_text ?k_law_text)
      (Ly.headOf (fun _ _ _ _ _ _ us hl => match us, hl with | [_], _ => rfl) kin G ?a_law ?l_law ?o_law ?k_law)
      ) hmg
    case b_abs => k_is
    case b_enumerate => k_is
    case b_int => k_is
    case b_isinstance => k_is
    case b_len => k_is
    case b_list => k_is
    case b_min => k_is
    case b_range => k_is
    case b_repr => k_is
    case b_str => k_is
    case b_tuple => k_is
    case b_zip => k_is
    case c_MAX_KINDS => k_is
    case c_MAX_STATES => k_is
    case c_MAX_TOLD => k_is
    (case a_read_number => k_is); (case l_read_number => k_is); (case o_read_number => k_is); (case k_read_number => k_is)
    (case a_teller_text => k_is); (case l_teller_text => k_is); (case o_teller_text => k_is); (case k_teller_text => k_is)
    (case a_read_teller => k_is); (case l_read_teller => k_is); (case o_read_teller => k_is); (case k_read_teller => k_is)
    (case a_read_line => k_is); (case l_read_line => k_is); (case o_read_line => k_is); (case k_read_line => k_is)
    (case a_law_bag => k_is); (case l_law_bag => k_is); (case o_law_bag => k_is); (case k_law_bag => k_is)
    (case a_law_draw => k_is); (case l_law_draw => k_is); (case o_law_draw => k_is); (case k_law_draw => k_is)
    (case a_law_pick => k_is); (case l_law_pick => k_is); (case o_law_pick => k_is); (case k_law_pick => k_is)
    (case a_law_known => k_is); (case l_law_known => k_is); (case o_law_known => k_is); (case k_law_known => k_is)
    (case a_law_names => k_is); (case l_law_names => k_is); (case o_law_names => k_is); (case k_law_names => k_is)
    (case a_law_any => k_is); (case l_law_any => k_is); (case o_law_any => k_is); (case k_law_any => k_is)
    (case a_law_growing => k_is); (case l_law_growing => k_is); (case o_law_growing => k_is); (case k_law_growing => k_is)
    (case a_law_bent => k_is); (case l_law_bent => k_is); (case o_law_bent => k_is); (case k_law_bent => k_is)
    (case a_law_by_length => k_is); (case l_law_by_length => k_is); (case o_law_by_length => k_is); (case k_law_by_length => k_is)
    (case a_law_both => k_is); (case l_law_both => k_is); (case o_law_both => k_is); (case k_law_both => k_is)
    (case a_law_machine => k_is); (case l_law_machine => k_is); (case o_law_machine => k_is); (case k_law_machine => k_is)
    (case a_law_great => k_is); (case l_law_great => k_is); (case o_law_great => k_is); (case k_law_great => k_is)
    (case a_law_split => k_is); (case l_law_split => k_is); (case o_law_split => k_is); (case k_law_split => k_is)
    (case a_law_wide => k_is); (case l_law_wide => k_is); (case o_law_wide => k_is); (case k_law_wide => k_is)
    (case a_law_text => k_is); (case l_law_text => k_is); (case o_law_text => k_is); (case k_law_text => k_is)
    (case a_law => k_is); (case l_law => k_is); (case o_law => k_is); (case k_law => k_is)

