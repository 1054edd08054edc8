import PyProof.Rows.All
import Wide.All
import OpenK.AllK
import Wide.FinOn
import HandS.ForMost
import HandS.Deep
import HandS.Zip
import HandS.IsInst
import HandS.TupAny
import HandS.TupMul
import HandS.Conv
import HandS.More
import HandS.Style
import KE.GoesMore
import PyProof.Rows.ReprR
import PyProof.CallFns
import PyProof.ReprRoads
import HandS.Dict
import HandS.TupLen
import KE.KDictDisplayH
import HandS.Ends
import HandS.ExcInit
import HandS.TryOnly
import HandS.WordsExc
import HandS.ExcIs
import KE.SortCalls
import PyProof.FitsInt
import PyProof.P3In
import PySem.Challenge.RW_endkeepers_k14_whole_what_is_left_of_a_r
set_option Elab.async false
set_option linter.all false
set_option maxRecDepth 100000
set_option maxHeartbeats 4000000
/-! Ly: data behind values, owned lists, and what an expression gives, said of data alone. -/
namespace Ly
open PySem PySem.Spec PyProof.Rows L2

/-- data: what a value stands for -/
inductive D where
  | non | bl (b : Bool) | int (i : Int) | str (x : Str)
  | tup (l : List D) | lst (l : List D) | dct | dc0 | bag (a : Addr) | scr (ns : List Int) | ty (n : String)

/-- what an expression gives: a datum, or a list that is new and nobody else's -/
inductive RV where
  | val (d : D) | new (l : List D) | newD (t : Bool) (m : List (List Key × D))
/-- what a name holds: nothing that counts, a datum, or a list of its own -/
inductive SV where
  | un | val (d : D) | own (l : List D) | ownD (t : Bool) (m : List (List Key × D)) | err (a : Addr) (d : Option Addr) (nms : List Str) (ds : List D)

/-- whose an address is -/
inductive Tg where
  | free | fro | oth | bagd (b : Addr) | bagl (a : Addr) | slot (i : Nat) | tmp (i : Nat)
  deriving DecidableEq
abbrev Gh := Addr → Tg
def updG (G : Gh) (a : Addr) (t : Tg) : Gh := fun b => if b = a then t else G b
theorem updG_same {G : Gh} {a : Addr} {t : Tg} : updG G a t a = t := by unfold updG; rw [if_pos rfl]
theorem updG_ne {G : Gh} {a b : Addr} {t : Tg} (h : b ≠ a) : updG G a t b = G b := by unfold updG; rw [if_neg h]

/-- the script: read, never written -/
def ScrP (K : PySem.W.Frag) (H : Hp) (a : Addr) (ns : List Int) : Prop := (∃ o, H a = some (.frz o (.lst (ns.map V.int)))) ∨
  ∃ (o : Obj) (its : Array Value) (n : Nat), K.lookup a = some o ∧ o.cls = .type "list" ∧ o.dict = none ∧ o.data = .seq its n ∧ its.size ≤ sizeLine ∧ Vals (ns.map V.int) its.toList
theorem ScrP.seq {K : PySem.W.Frag} {H : Hp} {a : Addr} {ns : List Int} (h : ScrP K H a ns) : SqL K H a (ns.map V.int) := by
  rcases h with ⟨o, h⟩ | h
  · exact .inl (.inr ⟨o, h⟩)
  · exact .inr h
mutual
inductive Rep (K : PySem.W.Frag) (G : Gh) (H : Hp) : V → D → Prop
  | non : Rep K G H .non .non
  | bl (b : Bool) : Rep K G H (.bl b) (.bl b)
  | int (i : Int) : Rep K G H (.int i) (.int i)
  | str (x : Str) : Rep K G H (.str x) (.str x)
  | ty (n : String) : Rep K G H (.ty n) (.ty n)
  | tup {a : Addr} {vs : List V} {ds : List D} : H a = some (.tup vs) → RepL K G H vs ds → Rep K G H (.ref a) (.tup ds)
  | lst {a : Addr} {vs : List V} {ds : List D} : G a = .fro → H a = some (.lst vs) → RepL K G H vs ds → Rep K G H (.ref a) (.lst ds)
  | dct {a : Addr} {o : HO} : G a = .fro → H a = some o → (∃ kvs, o = .dK kvs) ∨ (∃ kvs, o = .dT kvs) → Rep K G H (.ref a) .dct
  | dc0 {a : Addr} : G a = .fro → H a = some (.dK []) → Rep K G H (.ref a) .dc0
  | bag {a b : Addr} : G a = .bagd b → Rep K G H (.ref a) (.bag a)
  | scr {a : Addr} {ns : List Int} : ScrP K H a ns → Rep K G H (.ref a) (.scr ns)
inductive RepL (K : PySem.W.Frag) (G : Gh) (H : Hp) : List V → List D → Prop
  | nil : RepL K G H [] []
  | cons {v : V} {vs : List V} {d : D} {ds : List D} : Rep K G H v d → RepL K G H vs ds → RepL K G H (v :: vs) (d :: ds)
end

/-- what stays -/
structure Ext (G : Gh) (H : Hp) (G' : Gh) (H' : Hp) : Prop where
  fro : ∀ a, G a = .fro → G' a = .fro ∧ ∀ o, H a = some o → H' a = some o
  tup : ∀ a xs, H a = some (.tup xs) → H' a = some (.tup xs)
  frz : ∀ a o u, H a = some (.frz o u) → H' a = some (.frz o u)
  bag : ∀ a b, G a = .bagd b → G' a = .bagd b
theorem Ext.refl {G : Gh} {H : Hp} : Ext G H G H := ⟨fun _ h => ⟨h, fun _ e => e⟩, fun _ _ e => e, fun _ _ _ e => e, fun _ _ e => e⟩
theorem Ext.trans {G G1 G2 : Gh} {H H1 H2 : Hp} (x : Ext G H G1 H1) (y : Ext G1 H1 G2 H2) : Ext G H G2 H2 :=
  ⟨fun a h => ⟨(y.fro a (x.fro a h).1).1, fun o e => (y.fro a (x.fro a h).1).2 o ((x.fro a h).2 o e)⟩, fun a xs e => y.tup a xs (x.tup a xs e), fun a o u e => y.frz a o u (x.frz a o u e), fun a b e => y.bag a b (x.bag a b e)⟩
theorem Ext.seqT {K : PySem.W.Frag} {G G' : Gh} {H H' : Hp} {a : Addr} {xs : List V} (x : Ext G H G' H') (h : SqT K H a xs) : SqT K H' a xs := by
  rcases h with (h | ⟨o, h⟩) | h
  · exact .inl (.inl (x.tup _ _ h))
  · exact .inl (.inr ⟨o, x.frz _ _ _ h⟩)
  · exact .inr h
theorem Ext.scr {K : PySem.W.Frag} {G G' : Gh} {H H' : Hp} {a : Addr} {ns : List Int} (x : Ext G H G' H') (h : ScrP K H a ns) : ScrP K H' a ns := by
  rcases h with ⟨o, h⟩ | h
  · exact .inl ⟨o, x.frz _ _ _ h⟩
  · exact .inr h
mutual
theorem Rep.mono {K : PySem.W.Frag} {G G' : Gh} {H H' : Hp} (x : Ext G H G' H') : ∀ {v : V} {d : D}, Rep K G H v d → Rep K G' H' v d
  | _, .non, .non => .non
  | _, .bl b, .bl _ => .bl b
  | _, .int i, .int _ => .int i
  | _, .str s, .str _ => .str s
  | _, .ty s, .ty _ => .ty s
  | _, .tup ds, .tup h r => .tup (x.tup _ _ h) (RepL.mono x r)
  | _, .lst ds, .lst g h r => .lst (x.fro _ g).1 ((x.fro _ g).2 _ h) (RepL.mono x r)
  | _, .dct, .dct g h y => .dct (x.fro _ g).1 ((x.fro _ g).2 _ h) y
  | _, .dc0, .dc0 g h => .dc0 (x.fro _ g).1 ((x.fro _ g).2 _ h)
  | _, .bag _, .bag g => .bag (x.bag _ _ g)
  | _, .scr _, .scr h => .scr (x.scr h)
theorem RepL.mono {K : PySem.W.Frag} {G G' : Gh} {H H' : Hp} (x : Ext G H G' H') : ∀ {vs : List V} {ds : List D}, RepL K G H vs ds → RepL K G' H' vs ds
  | _, [], .nil => .nil
  | _, _ :: _, .cons a b => .cons (Rep.mono x a) (RepL.mono x b)
end
theorem RepL.length {K : PySem.W.Frag} {G : Gh} {H : Hp} : ∀ {vs : List V} {ds : List D}, RepL K G H vs ds → vs.length = ds.length
  | _, _, .nil => rfl
  | _, _, .cons _ t => by rw [List.length_cons, List.length_cons, RepL.length t]
theorem RepL.append {K : PySem.W.Frag} {G : Gh} {H : Hp} : ∀ {vs ws : List V} {ds es : List D}, RepL K G H vs ds → RepL K G H ws es → RepL K G H (vs ++ ws) (ds ++ es)
  | _, _, _, _, .nil, s => s
  | _, _, _, _, .cons r t, s => .cons r (RepL.append t s)
theorem RepL.get {K : PySem.W.Frag} {G : Gh} {H : Hp} : ∀ {vs : List V} {ds : List D} {i : Nat} {d : D}, RepL K G H vs ds → ds[i]? = some d → ∃ v, vs[i]? = some v ∧ Rep K G H v d
  | _, _, _, _, .nil, e => by simp at e
  | _, _, 0, _, .cons r _, e => by simp at e; subst e; exact ⟨_, rfl, r⟩
  | _, _, i + 1, d, .cons _ t, e => by
    obtain ⟨v, h1, h2⟩ := RepL.get (i := i) (d := d) t (by simpa using e)
    exact ⟨v, by simpa using h1, h2⟩
theorem RepL.getV {K : PySem.W.Frag} {G : Gh} {H : Hp} : ∀ {vs : List V} {ds : List D} {i : Nat} {v : V}, RepL K G H vs ds → vs[i]? = some v → ∃ d, ds[i]? = some d ∧ Rep K G H v d
  | _, _, _, _, .nil, e => by simp at e
  | _, _, 0, _, .cons r _, e => by simp at e; subst e; exact ⟨_, rfl, r⟩
  | _, _, i + 1, d, .cons _ t, e => by
    obtain ⟨v, h1, h2⟩ := RepL.getV (i := i) (v := d) t (by simpa using e)
    exact ⟨v, by simpa using h1, h2⟩
theorem RepL.set {K : PySem.W.Frag} {G : Gh} {H : Hp} {v : V} {d : D} (r : Rep K G H v d) : ∀ {vs : List V} {ds : List D} (i : Nat), RepL K G H vs ds → RepL K G H (vs.set i v) (ds.set i d)
  | _, _, _, .nil => .nil
  | _, _, 0, .cons _ t => .cons r t
  | _, _, i + 1, .cons q t => .cons q (RepL.set r i t)
theorem RepL.take {K : PySem.W.Frag} {G : Gh} {H : Hp} : ∀ {vs : List V} {ds : List D} (n : Nat), RepL K G H vs ds → RepL K G H (vs.take n) (ds.take n)
  | _, _, 0, _ => .nil
  | _, _, _ + 1, .nil => .nil
  | _, _, n + 1, .cons r t => .cons r (RepL.take n t)
theorem RepL.drop {K : PySem.W.Frag} {G : Gh} {H : Hp} : ∀ {vs : List V} {ds : List D} (n : Nat), RepL K G H vs ds → RepL K G H (vs.drop n) (ds.drop n)
  | _, _, 0, r => r
  | _, _, _ + 1, .nil => .nil
  | _, _, n + 1, .cons _ t => RepL.drop n t
theorem RepL.eraseIdx {K : PySem.W.Frag} {G : Gh} {H : Hp} : ∀ {vs : List V} {ds : List D} (i : Nat), RepL K G H vs ds → RepL K G H (vs.eraseIdx i) (ds.eraseIdx i)
  | _, _, _, .nil => .nil
  | _, _, 0, .cons _ t => t
  | _, _, i + 1, .cons q t => .cons q (RepL.eraseIdx i t)
theorem RepL.reverse {K : PySem.W.Frag} {G : Gh} {H : Hp} : ∀ {vs : List V} {ds : List D}, RepL K G H vs ds → RepL K G H vs.reverse ds.reverse
  | _, _, .nil => .nil
  | _, _, .cons r t => by rw [List.reverse_cons, List.reverse_cons]; exact (RepL.reverse t).append (.cons r .nil)
theorem RepL.rep {K : PySem.W.Frag} {G : Gh} {H : Hp} {vs : List V} {ds : List D} (h : RepL K G H vs ds) : ∀ k : Nat, RepL K G H (List.replicate k vs).flatten (List.replicate k ds).flatten
  | 0 => .nil
  | k + 1 => by rw [List.replicate_succ, List.replicate_succ, List.flatten_cons, List.flatten_cons]; exact h.append (RepL.rep h k)
theorem RepL.nil_iff {K : PySem.W.Frag} {G : Gh} {H : Hp} {vs : List V} {ds : List D} (h : RepL K G H vs ds) : vs = [] ↔ ds = [] := by
  cases h <;> simp

/-- a dict's pairs: its keys are tuples of ints and texts -/
inductive RepM (K : PySem.W.Frag) (G : Gh) (H : Hp) : List (List Key × V) → List (List Key × D) → Prop
  | nil : RepM K G H [] []
  | cons {k : List Key} {v : V} {d : D} {vs : List (List Key × V)} {ds : List (List Key × D)} : Rep K G H v d → RepM K G H vs ds → RepM K G H ((k, v) :: vs) ((k, d) :: ds)
theorem RepM.mono {K : PySem.W.Frag} {G G' : Gh} {H H' : Hp} (x : Ext G H G' H') : ∀ {vs : List (List Key × V)} {ds : List (List Key × D)}, RepM K G H vs ds → RepM K G' H' vs ds
  | _, [], .nil => .nil
  | _, _ :: _, .cons a b => .cons (a.mono x) (RepM.mono x b)
theorem RepM.length {K : PySem.W.Frag} {G : Gh} {H : Hp} : ∀ {vs : List (List Key × V)} {ds : List (List Key × D)}, RepM K G H vs ds → vs.length = ds.length
  | _, _, .nil => rfl
  | _, _, .cons _ t => by rw [List.length_cons, List.length_cons, RepM.length t]

/-- a dict whose keys are ints and texts (as lists of one), or tuples of such (t) -/
def OwnD (K : PySem.W.Frag) (G : Gh) (H : Hp) (t : Bool) (u : HO) (m : List (List Key × D)) : Prop := match t with
  | true => ∃ vs, u = .dT vs ∧ RepM K G H vs m
  | false => ∃ vs : List (Key × V), u = .dK vs ∧ RepM K G H (vs.map fun p => ([p.1], p.2)) m
theorem OwnD.mono {K : PySem.W.Frag} {G G' : Gh} {H H' : Hp} {t : Bool} {u : HO} {m : List (List Key × D)} (x : Ext G H G' H') (h : OwnD K G H t u m) : OwnD K G' H' t u m := by
  cases t with
  | true => obtain ⟨vs, e, r⟩ := h; exact ⟨vs, e, r.mono x⟩
  | false => obtain ⟨vs, e, r⟩ := h; exact ⟨vs, e, r.mono x⟩
theorem OwnD.isD {K : PySem.W.Frag} {G : Gh} {H : Hp} {t : Bool} {u : HO} {m : List (List Key × D)} (h : OwnD K G H t u m) : (∃ kvs, u = .dK kvs) ∨ ∃ kvs, u = .dT kvs := by
  cases t with
  | true => obtain ⟨vs, e, r⟩ := h; exact .inr ⟨_, e⟩
  | false => obtain ⟨vs, e, r⟩ := h; exact .inl ⟨_, e⟩

/-! ### what a name, what a value on the way holds -/
def SlotOk (K : PySem.W.Frag) (G : Gh) (H : Hp) (o : Option (Option V)) (i : Nat) : SV → Prop
  | .un => True
  | .val d => ∃ v, o = some (some v) ∧ Rep K G H v d
  | .own l => ∃ a vs, o = some (some (.ref a)) ∧ G a = .slot i ∧ H a = some (.lst vs) ∧ RepL K G H vs l
  | .ownD t m => ∃ a u, o = some (some (.ref a)) ∧ G a = .slot i ∧ H a = some u ∧ OwnD K G H t u m
  | .err a d nms ds => o = some (some (.ref a)) ∧ (nms = [] → d = none) ∧ (nms ≠ [] → ∃ dd vs, d = some dd ∧ G dd = .fro ∧ H dd = some (.xd vs) ∧ vs.map (·.1) = nms ∧ RepL K G H (vs.map (·.2)) ds)
def TmpOk (K : PySem.W.Frag) (G : Gh) (H : Hp) (j : Nat) (v : V) : RV → Prop
  | .val d => Rep K G H v d
  | .new l => ∃ a vs, v = .ref a ∧ G a = .tmp j ∧ H a = some (.lst vs) ∧ RepL K G H vs l
  | .newD t m => ∃ a u, v = .ref a ∧ G a = .tmp j ∧ H a = some u ∧ OwnD K G H t u m
/-- the drawing bag: its dict, its list, how often it was drawn from -/
def kFar : Key := .inr (Str.ofString "far")
def kStir : Key := .inr (Str.ofString "stirred")
def kTurn : Key := .inr (Str.ofString "turn")
def BagOk (G : Gh) (H : Hp) (n : Nat) (a b : Addr) : Prop :=
  G b = .bagl a ∧ ∃ (far : List Int) (s t : Int), H a = some (.dK [(kFar, .ref b), (kStir, .int s), (kTurn, .int t)]) ∧ H b = some (.lst (far.map V.int)) ∧ far.length ≤ 63 ∧ 0 ≤ s ∧ s < 4294967291 ∧ 0 ≤ t ∧ t ≤ n
/-- the caller's objects stand as they stood -/
structure Gr (G0 : Gh) (H0 : Hp) (G : Gh) (H : Hp) : Prop where
  keep : ∀ a o, H0 a = some o → (∀ b, G0 a ≠ .bagd b) → (∀ b, G0 a ≠ .bagl b) → H a = some o ∧ G a = G0 a
  bagd : ∀ a b, G0 a = .bagd b → G a = .bagd b
  bagl : ∀ a b, G0 a = .bagl b → G a = .bagl b
  tup : ∀ a xs, H0 a = some (.tup xs) → H a = some (.tup xs)
  frz : ∀ a o u, H0 a = some (.frz o u) → H a = some (.frz o u)
structure EnvOk (K : PySem.W.Frag) (G0 : Gh) (H0 : Hp) (G : Gh) (H : Hp) (σ : L2.St) (ρ : List SV) (n : Nat) (τ : List (V × RV)) : Prop where
  gr : Gr G0 H0 G H
  ns : ∀ a i, G0 a ≠ .slot i
  nt : ∀ a i, G0 a ≠ .tmp i
  bg : ∀ a b, G a = .bagd b → BagOk G H n a b
  fh : ∀ a, H a = none → G a = .free
  ln : ρ.length = σ.length
  sl : ∀ i s, ρ[i]? = some s → SlotOk K G H σ[i]? i s
  tm : ∀ j v r, τ[j]? = some (v, r) → TmpOk K G H j v r

section
variable {K : PySem.W.Frag} {G0 G G' : Gh} {H0 H H' : Hp} {σ : L2.St} {ρ : List SV} {n n' : Nat} {τ : List (V × RV)} {v : V} {r : RV} {d : D} {l : List D} {a p : Addr} {i j : Nat} {o : HO} {t : Tg}
theorem SlotOk.mono {oo : Option (Option V)} {s : SV} (x : Ext G H G' H') (k : ∀ a u, G a = .slot i → H a = some u → G' a = .slot i ∧ H' a = some u) (h : SlotOk K G H oo i s) : SlotOk K G' H' oo i s := by
  cases s with
  | un => trivial
  | val d => obtain ⟨v, e, r⟩ := h; exact ⟨v, e, r.mono x⟩
  | own l => obtain ⟨a, vs, e, g, q, r⟩ := h; exact ⟨a, vs, e, (k a _ g q).1, (k a _ g q).2, r.mono x⟩
  | ownD t m => obtain ⟨a, vs, e, g, q, r⟩ := h; exact ⟨a, vs, e, (k a _ g q).1, (k a _ g q).2, r.mono x⟩
  | err a d nms ds => obtain ⟨e, z, h⟩ := h; exact ⟨e, z, fun hn => by obtain ⟨dd, vs, h1, h2, h3, h4, h5⟩ := h hn; exact ⟨dd, vs, h1, (x.fro _ h2).1, (x.fro _ h2).2 _ h3, h4, h5.mono x⟩⟩
theorem TmpOk.mono (x : Ext G H G' H') (k : ∀ a u, G a = .tmp j → H a = some u → G' a = .tmp j ∧ H' a = some u) (h : TmpOk K G H j v r) : TmpOk K G' H' j v r := by
  cases r with
  | val d => exact Rep.mono x h
  | new l => obtain ⟨a, vs, e, g, q, r⟩ := h; exact ⟨a, vs, e, (k a _ g q).1, (k a _ g q).2, r.mono x⟩
  | newD t m => obtain ⟨a, vs, e, g, q, r⟩ := h; exact ⟨a, vs, e, (k a _ g q).1, (k a _ g q).2, r.mono x⟩
theorem EnvOk.next (e : EnvOk K G0 H0 G H σ ρ n τ) (x : Ext G H G' H') (gr : Gr G0 H0 G' H') (bg : ∀ a b, G' a = .bagd b → BagOk G' H' n' a b) (fh : ∀ a, H' a = none → G' a = .free)
    (ks : ∀ i a u, G a = .slot i → H a = some u → G' a = .slot i ∧ H' a = some u) (kt : ∀ i a u, G a = .tmp i → H a = some u → G' a = .tmp i ∧ H' a = some u) :
    EnvOk K G0 H0 G' H' σ ρ n' τ :=
  ⟨gr, e.ns, e.nt, bg, fh, e.ln, fun i s h => (e.sl i s h).mono x (ks i), fun j v r h => (e.tm j v r h).mono x (kt j)⟩
theorem EnvOk.alloc (e : EnvOk K G0 H0 G H σ ρ n τ) (hp : H p = none) (o : HO) (t : Tg) (ht : ∀ b, t ≠ .bagd b) : EnvOk K G0 H0 (updG G p t) (upd H p o) σ ρ n τ := by
  have gp := e.fh p hp
  have ne : ∀ a u, H a = some u → a ≠ p := fun a u q => ne_of_none q hp
  have neG : ∀ a, G a ≠ .free → a ≠ p := fun a q z => q (z ▸ gp)
  refine e.next ⟨fun a q => ?_, fun a xs q => ?_, fun a ob u q => ?_, fun a b q => ?_⟩ ⟨fun a u q h1 h2 => ?_, fun a b q => ?_, fun a b q => ?_, fun a xs q => by have z := e.gr.tup a xs q; rw [upd_ne (ne a _ z)]; exact z, fun a ob u q => by have z := e.gr.frz a ob u q; rw [upd_ne (ne a _ z)]; exact z⟩ (fun a b q => ?_) (fun a q => ?_) (fun i a vs g q => ?_) (fun i a vs g q => ?_)
  · have h := neG a (by rw [q]; simp)
    rw [updG_ne h]
    exact ⟨q, fun u z => by rw [upd_ne h]; exact z⟩
  · rw [upd_ne (ne a _ q)]; exact q
  · rw [upd_ne (ne a _ q)]; exact q
  · rw [updG_ne (neG a (by rw [q]; simp))]; exact q
  · obtain ⟨z1, z2⟩ := e.gr.keep a u q h1 h2
    rw [upd_ne (ne a _ z1), updG_ne (ne a _ z1)]
    exact ⟨z1, z2⟩
  · have z := e.gr.bagd a b q
    rw [updG_ne (neG a (by rw [z]; simp))]; exact z
  · have z := e.gr.bagl a b q
    rw [updG_ne (neG a (by rw [z]; simp))]; exact z
  · have h : a ≠ p := fun z => by subst z; rw [updG_same] at q; exact ht b q
    rw [updG_ne h] at q
    obtain ⟨gb, far, s, t, ha, hb, z⟩ := e.bg a b q
    refine ⟨by rw [updG_ne (ne b _ hb)]; exact gb, far, s, t, by rw [upd_ne h]; exact ha, by rw [upd_ne (ne b _ hb)]; exact hb, z⟩
  · by_cases h : a = p
    · subst h; rw [upd_same] at q; cases q
    · rw [upd_ne h] at q; rw [updG_ne h]; exact e.fh a q
  · rw [updG_ne (ne a _ q), upd_ne (ne a _ q)]; exact ⟨g, q⟩
  · rw [updG_ne (ne a _ q), upd_ne (ne a _ q)]; exact ⟨g, q⟩
theorem Ext.alloc (e : EnvOk K G0 H0 G H σ ρ n τ) (hp : H p = none) : Ext G H (updG G p t) (upd H p o) := by
  have gp := e.fh p hp
  have ne : ∀ a u, H a = some u → a ≠ p := fun a u q => ne_of_none q hp
  have neG : ∀ a, G a ≠ .free → a ≠ p := fun a q z => q (z ▸ gp)
  refine ⟨fun a q => ?_, fun a xs q => ?_, fun a ob u q => ?_, fun a b q => ?_⟩
  · have h := neG a (by rw [q]; simp)
    rw [updG_ne h]
    exact ⟨q, fun u z => by rw [upd_ne h]; exact z⟩
  · rw [upd_ne (ne a _ q)]; exact q
  · rw [upd_ne (ne a _ q)]; exact q
  · rw [updG_ne (neG a (by rw [q]; simp))]; exact q
theorem EnvOk.push (e : EnvOk K G0 H0 G H σ ρ n τ) (h : TmpOk K G H τ.length v r) : EnvOk K G0 H0 G H σ ρ n (τ ++ [(v, r)]) :=
  ⟨e.gr, e.ns, e.nt, e.bg, e.fh, e.ln, e.sl, fun j v' r' q => by
    by_cases hj : j < τ.length
    · rw [List.getElem?_append_left hj] at q; exact e.tm j v' r' q
    · rw [List.getElem?_append_right (by omega)] at q
      have : j = τ.length := by
        cases hk : j - τ.length with
        | zero => omega
        | succ k => rw [hk] at q; simp at q
      subst this
      simp at q
      obtain ⟨rfl, rfl⟩ := q
      exact h⟩
theorem EnvOk.pushV (e : EnvOk K G0 H0 G H σ ρ n τ) (h : Rep K G H v d) : EnvOk K G0 H0 G H σ ρ n (τ ++ [(v, .val d)]) := e.push (r := .val d) h
theorem EnvOk.pop {τ' : List (V × RV)} (e : EnvOk K G0 H0 G H σ ρ n (τ ++ τ')) : EnvOk K G0 H0 G H σ ρ n τ :=
  ⟨e.gr, e.ns, e.nt, e.bg, e.fh, e.ln, e.sl, fun j v' r' q => e.tm j v' r' (by
    rw [List.getElem?_append_left]
    · exact q
    · exact (List.getElem?_eq_some_iff.mp q).1)⟩
theorem EnvOk.top (e : EnvOk K G0 H0 G H σ ρ n (τ ++ [(v, r)])) : TmpOk K G H τ.length v r := e.tm _ v r (by simp)
theorem EnvOk.top2 {v' : V} {r' : RV} (e : EnvOk K G0 H0 G H σ ρ n (τ ++ [(v, r)] ++ [(v', r')])) : TmpOk K G H τ.length v r := e.tm _ v r (by simp)
theorem EnvOk.topV (e : EnvOk K G0 H0 G H σ ρ n (τ ++ [(v, .val d)])) : Rep K G H v d := e.top
/-- an owned address is none of the caller's -/
theorem EnvOk.notIn (e : EnvOk K G0 H0 G H σ ρ n τ) (g : (∃ i, G a = .slot i) ∨ ∃ i, G a = .tmp i) : H0 a = none := by
  cases q : H0 a with
  | none => rfl
  | some u =>
    by_cases h1 : ∃ b, G0 a = .bagd b
    · obtain ⟨b, h1⟩ := h1
      have z := e.gr.bagd a b h1
      rcases g with ⟨i, g⟩ | ⟨i, g⟩ <;> (rw [g] at z; cases z)
    · by_cases h2 : ∃ b, G0 a = .bagl b
      · obtain ⟨b, h2⟩ := h2
        have z := e.gr.bagl a b h2
        rcases g with ⟨i, g⟩ | ⟨i, g⟩ <;> (rw [g] at z; cases z)
      · have z := (e.gr.keep a u q (fun b y => h1 ⟨b, y⟩) fun b y => h2 ⟨b, y⟩).2
        rcases g with ⟨i, g⟩ | ⟨i, g⟩
        · rw [g] at z; exact absurd z.symm (e.ns a i)
        · rw [g] at z; exact absurd z.symm (e.nt a i)
/-- the tag of an owned list is turned: to a datum's, or to a name's -/
theorem EnvOk.retag {u0 : HO} (e : EnvOk K G0 H0 G H σ ρ n τ) (ha : H a = some u0) (g : (∃ i, G a = .slot i) ∨ ∃ i, G a = .tmp i) (t : Tg) (ht : ∀ b, t ≠ .bagd b) :
    Gr G0 H0 (updG G a t) H ∧ Ext G H (updG G a t) H ∧ (∀ c b, updG G a t c = .bagd b → BagOk (updG G a t) H n c b) ∧ ∀ c, H c = none → updG G a t c = .free := by
  have h0 := e.notIn g
  have nf : G a ≠ .fro := by rcases g with ⟨i, g⟩ | ⟨i, g⟩ <;> (rw [g]; simp)
  have nb : ∀ b, G a ≠ .bagd b := by rcases g with ⟨i, g⟩ | ⟨i, g⟩ <;> (rw [g]; simp)
  have nl : ∀ b, G a ≠ .bagl b := by rcases g with ⟨i, g⟩ | ⟨i, g⟩ <;> (rw [g]; simp)
  refine ⟨⟨fun c u q h1 h2 => ?_, fun c b q => ?_, fun c b q => ?_, e.gr.tup, e.gr.frz⟩, ⟨fun c q => ?_, fun _ _ q => q, fun _ _ _ q => q, fun c b q => ?_⟩, fun c b q => ?_, fun c q => ?_⟩
  · have h : c ≠ a := fun z => by subst z; rw [h0] at q; cases q
    rw [updG_ne h]; exact e.gr.keep c u q h1 h2
  · have z := e.gr.bagd c b q
    have h : c ≠ a := fun y => by subst y; exact nb b z
    rw [updG_ne h]; exact z
  · have z := e.gr.bagl c b q
    have h : c ≠ a := fun y => by subst y; exact nl b z
    rw [updG_ne h]; exact z
  · have h : c ≠ a := fun y => by subst y; exact nf q
    rw [updG_ne h]; exact ⟨q, fun _ z => z⟩
  · have h : c ≠ a := fun y => by subst y; exact nb b q
    rw [updG_ne h]; exact q
  · have h : c ≠ a := fun y => by subst y; rw [updG_same] at q; exact ht b q
    rw [updG_ne h] at q
    obtain ⟨gb, z⟩ := e.bg c b q
    have h' : b ≠ a := fun y => by subst y; exact nl c gb
    exact ⟨by rw [updG_ne h']; exact gb, z⟩
  · have h : c ≠ a := fun y => by subst y; rw [ha] at q; cases q
    rw [updG_ne h]; exact e.fh c q
/-- a new list, held as the last value, becomes a datum -/
def frz : RV → RV
  | .val d => .val d
  | .new l => .val (.lst l)
  | .newD _ _ => .val .dct
theorem EnvOk.freeze (e : EnvOk K G0 H0 G H σ ρ n (τ ++ [(v, r)])) : ∃ G', Ext G H G' H ∧ EnvOk K G0 H0 G' H σ ρ n (τ ++ [(v, frz r)]) := by
  cases r with
  | val d => exact ⟨G, .refl, e⟩
  | new l =>
    obtain ⟨a, vs, rfl, g, ha, rl⟩ := e.top
    obtain ⟨gr, x, bg, fh⟩ := e.retag ha (.inr ⟨_, g⟩) .fro (by simp)
    have ne : ∀ c i, G c = .slot i → c ≠ a := fun c i q z => by subst z; rw [q] at g; cases g
    have ne' : ∀ c i, i ≠ τ.length → G c = .tmp i → c ≠ a := fun c i hi q z => by subst z; rw [q] at g; cases g; exact hi rfl
    refine ⟨_, x, EnvOk.push ⟨gr, e.ns, e.nt, bg, fh, e.ln, fun i s h => (e.sl i s h).mono x fun c vs g' q => ⟨by rw [updG_ne (ne c i g')]; exact g', q⟩, fun j v' r' h => ?_⟩ (.lst updG_same ha (rl.mono x))⟩
    have hj : j < τ.length := (List.getElem?_eq_some_iff.mp h).1
    exact (e.pop.tm j v' r' h).mono x fun c vs g' q => ⟨by rw [updG_ne (ne' c j (by omega) g')]; exact g', q⟩
  | newD t l =>
    obtain ⟨a, vs, rfl, g, ha, rl⟩ := e.top
    obtain ⟨gr, x, bg, fh⟩ := e.retag ha (.inr ⟨_, g⟩) .fro (by simp)
    have ne : ∀ c i, G c = .slot i → c ≠ a := fun c i q z => by subst z; rw [q] at g; cases g
    have ne' : ∀ c i, i ≠ τ.length → G c = .tmp i → c ≠ a := fun c i hi q z => by subst z; rw [q] at g; cases g; exact hi rfl
    refine ⟨_, x, EnvOk.push ⟨gr, e.ns, e.nt, bg, fh, e.ln, fun i s h => (e.sl i s h).mono x fun c vs g' q => ⟨by rw [updG_ne (ne c i g')]; exact g', q⟩, fun j v' r' h => ?_⟩ (.dct updG_same ha rl.isD)⟩
    have hj : j < τ.length := (List.getElem?_eq_some_iff.mp h).1
    exact (e.pop.tm j v' r' h).mono x fun c vs g' q => ⟨by rw [updG_ne (ne' c j (by omega) g')]; exact g', q⟩
theorem EnvOk.freeze2 {v' : V} {d' : D} (e : EnvOk K G0 H0 G H σ ρ n (τ ++ [(v, r)] ++ [(v', .val d')])) : ∃ G', Ext G H G' H ∧ EnvOk K G0 H0 G' H σ ρ n (τ ++ [(v, frz r)] ++ [(v', .val d')]) := by
  obtain ⟨G', x, e'⟩ := e.pop.freeze
  exact ⟨G', x, e'.push (Rep.mono x e.topV)⟩
/-- a name's own list becomes a datum -/
theorem EnvOk.freezeS (e : EnvOk K G0 H0 G H σ ρ n τ) (h : ρ[i]? = some (.own l)) : ∃ G', Ext G H G' H ∧ EnvOk K G0 H0 G' H σ (ρ.set i (.val (.lst l))) n τ := by
  obtain ⟨a, vs, ea, g, ha, rl⟩ := e.sl i _ h
  obtain ⟨gr, x, bg, fh⟩ := e.retag ha (.inl ⟨_, g⟩) .fro (by simp)
  have ne : ∀ c j, j ≠ i → G c = .slot j → c ≠ a := fun c j hj q z => by subst z; rw [q] at g; cases g; exact hj rfl
  have ne' : ∀ c j, G c = .tmp j → c ≠ a := fun c j q z => by subst z; rw [q] at g; cases g
  refine ⟨_, x, gr, e.ns, e.nt, bg, fh, by rw [List.length_set]; exact e.ln, fun j s hs => ?_, fun j v' r' h => (e.tm j v' r' h).mono x fun c vs g' q => ⟨by rw [updG_ne (ne' c j g')]; exact g', q⟩⟩
  by_cases hj : j = i
  · subst hj
    have hl : j < ρ.length := (List.getElem?_eq_some_iff.mp h).1
    rw [List.getElem?_set_self hl] at hs
    cases hs
    exact ⟨_, ea, .lst updG_same ha (rl.mono x)⟩
  · rw [List.getElem?_set_ne (Ne.symm hj)] at hs
    exact (e.sl j s hs).mono x fun c vs g' q => ⟨by rw [updG_ne (ne c j hj g')]; exact g', q⟩
/-- what is held is given to a name -/
def svOf : RV → SV
  | .val d => .val d
  | .new l => .own l
  | .newD t m => .ownD t m
theorem EnvOk.assign (e : EnvOk K G0 H0 G H σ ρ n (τ ++ [(v, r)])) (hi : i < ρ.length) : ∃ G', EnvOk K G0 H0 G' H (σ.set i (some v)) (ρ.set i (svOf r)) n τ := by
  have hi' : i < σ.length := by rw [← e.ln]; exact hi
  cases r with
  | val d =>
    refine ⟨G, e.gr, e.ns, e.nt, e.bg, e.fh, by rw [List.length_set, List.length_set]; exact e.ln, fun j s hs => ?_, e.pop.tm⟩
    by_cases hj : j = i
    · subst hj
      rw [List.getElem?_set_self hi] at hs
      cases hs
      exact ⟨v, by rw [List.getElem?_set_self hi'], e.topV⟩
    · rw [List.getElem?_set_ne (Ne.symm hj)] at hs ⊢
      exact e.sl j s hs
  | new l =>
    obtain ⟨a, vs, rfl, g, ha, rl⟩ := e.top
    obtain ⟨gr, x, bg, fh⟩ := e.retag ha (.inr ⟨_, g⟩) (.slot i) (by simp)
    have ne : ∀ c j, G c = .slot j → c ≠ a := fun c j q z => by subst z; rw [q] at g; cases g
    have ne' : ∀ c j, j ≠ τ.length → G c = .tmp j → c ≠ a := fun c j hj q z => by subst z; rw [q] at g; cases g; exact hj rfl
    refine ⟨_, gr, e.ns, e.nt, bg, fh, by rw [List.length_set, List.length_set]; exact e.ln, fun j s hs => ?_, fun j v' r' h => ?_⟩
    · by_cases hj : j = i
      · subst hj
        rw [List.getElem?_set_self hi] at hs
        cases hs
        exact ⟨a, vs, by rw [List.getElem?_set_self hi'], updG_same, ha, rl.mono x⟩
      · rw [List.getElem?_set_ne (Ne.symm hj)] at hs ⊢
        exact (e.sl j s hs).mono x fun c vs g' q => ⟨by rw [updG_ne (ne c j g')]; exact g', q⟩
    · have hj : j < τ.length := (List.getElem?_eq_some_iff.mp h).1
      exact (e.pop.tm j v' r' h).mono x fun c vs g' q => ⟨by rw [updG_ne (ne' c j (by omega) g')]; exact g', q⟩
  | newD t l =>
    obtain ⟨a, vs, rfl, g, ha, rl⟩ := e.top
    obtain ⟨gr, x, bg, fh⟩ := e.retag ha (.inr ⟨_, g⟩) (.slot i) (by simp)
    have ne : ∀ c j, G c = .slot j → c ≠ a := fun c j q z => by subst z; rw [q] at g; cases g
    have ne' : ∀ c j, j ≠ τ.length → G c = .tmp j → c ≠ a := fun c j hj q z => by subst z; rw [q] at g; cases g; exact hj rfl
    refine ⟨_, gr, e.ns, e.nt, bg, fh, by rw [List.length_set, List.length_set]; exact e.ln, fun j s hs => ?_, fun j v' r' h => ?_⟩
    · by_cases hj : j = i
      · subst hj
        rw [List.getElem?_set_self hi] at hs
        cases hs
        exact ⟨a, vs, by rw [List.getElem?_set_self hi'], updG_same, ha, rl.mono x⟩
      · rw [List.getElem?_set_ne (Ne.symm hj)] at hs ⊢
        exact (e.sl j s hs).mono x fun c vs g' q => ⟨by rw [updG_ne (ne c j g')]; exact g', q⟩
    · have hj : j < τ.length := (List.getElem?_eq_some_iff.mp h).1
      exact (e.pop.tm j v' r' h).mono x fun c vs g' q => ⟨by rw [updG_ne (ne' c j (by omega) g')]; exact g', q⟩
/-- a name's own list is changed -/
theorem EnvOk.mutate {vs ws : List V} {l' : List D} (e : EnvOk K G0 H0 G H σ ρ n τ) (h : ρ[i]? = some (.own l)) (ea : σ[i]? = some (some (.ref a))) (g : G a = .slot i) (ha : H a = some (.lst vs)) (rl : RepL K G H ws l') :
    Ext G H G (upd H a (.lst ws)) ∧ EnvOk K G0 H0 G (upd H a (.lst ws)) σ (ρ.set i (.own l')) n τ := by
  have h0 := e.notIn (.inl ⟨i, g⟩)
  have x : Ext G H G (upd H a (.lst ws)) := by
    refine ⟨fun c q => ⟨q, fun u z => ?_⟩, fun c xs q => ?_, fun c ob u q => ?_, fun _ _ q => q⟩
    · rw [upd_ne (fun y => by subst y; rw [q] at g; cases g)]; exact z
    · rw [upd_ne (ne_of q ha (by simp))]; exact q
    · rw [upd_ne (ne_of q ha (by simp))]; exact q
  refine ⟨x, ⟨fun c u q h1 h2 => ?_, e.gr.bagd, e.gr.bagl, fun c xs q => x.tup c xs (e.gr.tup c xs q), fun c ob u q => x.frz c ob u (e.gr.frz c ob u q)⟩, e.ns, e.nt, fun c b q => ?_, fun c q => ?_, by rw [List.length_set]; exact e.ln, fun j s hs => ?_, fun j v' r' hh => (e.tm j v' r' hh).mono x fun c vs g' q => ⟨g', ?_⟩⟩
  · have hc : c ≠ a := fun z => by subst z; rw [h0] at q; cases q
    rw [upd_ne hc]; exact e.gr.keep c u q h1 h2
  · obtain ⟨gb, far, s, t, hc, hb, z⟩ := e.bg c b q
    refine ⟨gb, far, s, t, by rw [upd_ne (ne_of hc ha (by simp))]; exact hc, by rw [upd_ne (fun y => by subst y; rw [gb] at g; cases g)]; exact hb, z⟩
  · by_cases hc : c = a
    · subst hc; rw [upd_same] at q; cases q
    · rw [upd_ne hc] at q; exact e.fh c q
  · by_cases hj : j = i
    · subst hj
      have hl : j < ρ.length := (List.getElem?_eq_some_iff.mp h).1
      rw [List.getElem?_set_self hl] at hs
      cases hs
      exact ⟨a, ws, ea, g, upd_same, rl.mono x⟩
    · rw [List.getElem?_set_ne (Ne.symm hj)] at hs
      refine (e.sl j s hs).mono x fun c vs g' q => ⟨g', ?_⟩
      rw [upd_ne (fun y => by subst y; rw [g] at g'; cases g'; exact hj rfl)]; exact q
  · rw [upd_ne (fun y => by subst y; rw [g] at g'; cases g')]; exact q
/-- the j-th value on the way is given to a name -/
theorem EnvOk.assignAt (e : EnvOk K G0 H0 G H σ ρ n τ) (hj : τ[j]? = some (v, r)) : ∃ G', EnvOk K G0 H0 G' H (σ.set i (some v)) (ρ.set i (svOf r)) n (τ.set j (.non, .val .non)) := by
  have hjl : j < τ.length := (List.getElem?_eq_some_iff.mp hj).1
  by_cases hi : i < ρ.length
  · have hi' : i < σ.length := by rw [← e.ln]; exact hi
    cases r with
    | val d =>
      refine ⟨G, e.gr, e.ns, e.nt, e.bg, e.fh, by rw [List.length_set, List.length_set]; exact e.ln, fun m s hs => ?_, fun m v' r' h => ?_⟩
      · by_cases hm : m = i
        · subst hm
          rw [List.getElem?_set_self hi] at hs
          cases hs
          exact ⟨v, by rw [List.getElem?_set_self hi'], e.tm j v (.val d) hj⟩
        · rw [List.getElem?_set_ne (Ne.symm hm)] at hs ⊢
          exact e.sl m s hs
      · by_cases hm : m = j
        · subst hm; rw [List.getElem?_set_self hjl] at h; cases h; exact Rep.non
        · rw [List.getElem?_set_ne (Ne.symm hm)] at h; exact e.tm m v' r' h
    | new l =>
      obtain ⟨a, vs, rfl, g, ha, rl⟩ := e.tm j v (.new l) hj
      obtain ⟨gr, x, bg, fh⟩ := e.retag ha (.inr ⟨_, g⟩) (.slot i) (by simp)
      have ne : ∀ c m, G c = .slot m → c ≠ a := fun c m q z => by subst z; rw [q] at g; cases g
      have ne' : ∀ c m, m ≠ j → G c = .tmp m → c ≠ a := fun c m hm q z => by subst z; rw [q] at g; cases g; exact hm rfl
      refine ⟨_, gr, e.ns, e.nt, bg, fh, by rw [List.length_set, List.length_set]; exact e.ln, fun m s hs => ?_, fun m v' r' h => ?_⟩
      · by_cases hm : m = i
        · subst hm
          rw [List.getElem?_set_self hi] at hs
          cases hs
          exact ⟨a, vs, by rw [List.getElem?_set_self hi'], updG_same, ha, rl.mono x⟩
        · rw [List.getElem?_set_ne (Ne.symm hm)] at hs ⊢
          exact (e.sl m s hs).mono x fun c vs g' q => ⟨by rw [updG_ne (ne c m g')]; exact g', q⟩
      · by_cases hm : m = j
        · subst hm; rw [List.getElem?_set_self hjl] at h; cases h; exact Rep.non
        · rw [List.getElem?_set_ne (Ne.symm hm)] at h
          exact (e.tm m v' r' h).mono x fun c vs g' q => ⟨by rw [updG_ne (ne' c m hm g')]; exact g', q⟩
    | newD t l =>
      obtain ⟨a, vs, rfl, g, ha, rl⟩ := e.tm j v (.newD t l) hj
      obtain ⟨gr, x, bg, fh⟩ := e.retag ha (.inr ⟨_, g⟩) (.slot i) (by simp)
      have ne : ∀ c m, G c = .slot m → c ≠ a := fun c m q z => by subst z; rw [q] at g; cases g
      have ne' : ∀ c m, m ≠ j → G c = .tmp m → c ≠ a := fun c m hm q z => by subst z; rw [q] at g; cases g; exact hm rfl
      refine ⟨_, gr, e.ns, e.nt, bg, fh, by rw [List.length_set, List.length_set]; exact e.ln, fun m s hs => ?_, fun m v' r' h => ?_⟩
      · by_cases hm : m = i
        · subst hm
          rw [List.getElem?_set_self hi] at hs
          cases hs
          exact ⟨a, vs, by rw [List.getElem?_set_self hi'], updG_same, ha, rl.mono x⟩
        · rw [List.getElem?_set_ne (Ne.symm hm)] at hs ⊢
          exact (e.sl m s hs).mono x fun c vs g' q => ⟨by rw [updG_ne (ne c m g')]; exact g', q⟩
      · by_cases hm : m = j
        · subst hm; rw [List.getElem?_set_self hjl] at h; cases h; exact Rep.non
        · rw [List.getElem?_set_ne (Ne.symm hm)] at h
          exact (e.tm m v' r' h).mono x fun c vs g' q => ⟨by rw [updG_ne (ne' c m hm g')]; exact g', q⟩
  · have h1 : ρ.set i (svOf r) = ρ := List.set_eq_of_length_le (by omega)
    have h2 : σ.set i (some v) = σ := List.set_eq_of_length_le (by rw [← e.ln]; omega)
    rw [h1, h2]
    refine ⟨G, e.gr, e.ns, e.nt, e.bg, e.fh, e.ln, e.sl, fun m v' r' h => ?_⟩
    by_cases hm : m = j
    · subst hm; rw [List.getElem?_set_self hjl] at h; cases h; exact Rep.non
    · rw [List.getElem?_set_ne (Ne.symm hm)] at h; exact e.tm m v' r' h
theorem EnvOk.assign' (e : EnvOk K G0 H0 G H σ ρ n (τ ++ [(v, r)])) : ∃ G', EnvOk K G0 H0 G' H (σ.set i (some v)) (ρ.set i (svOf r)) n τ := by
  obtain ⟨G', e'⟩ := e.assignAt (j := τ.length) (i := i) (v := v) (r := r) (by simp)
  rw [List.set_append_right _ _ (Nat.le_refl _)] at e'
  exact ⟨G', e'.pop⟩
/-- what stands in the middle is dropped -/
theorem EnvOk.mid {τ' : List (V × RV)} (e : EnvOk K G0 H0 G H σ ρ n (τ ++ τ' ++ [(v, r)])) : ∃ G', EnvOk K G0 H0 G' H σ ρ n (τ ++ [(v, r)]) := by
  cases r with
  | val d => exact ⟨G, e.pop.pop.pushV e.topV⟩
  | new l =>
    obtain ⟨a, vs, rfl, g, ha, rl⟩ := e.top
    obtain ⟨gr, x, bg, fh⟩ := e.retag ha (.inr ⟨_, g⟩) (.tmp τ.length) (by simp)
    have ne : ∀ c m, G c = .slot m → c ≠ a := fun c m q z => by subst z; rw [q] at g; cases g
    have ne' : ∀ c m, m ≠ (τ ++ τ').length → G c = .tmp m → c ≠ a := fun c m hm q z => by subst z; rw [q] at g; cases g; exact hm rfl
    refine ⟨_, EnvOk.push ⟨gr, e.ns, e.nt, bg, fh, e.ln, fun m s hs => (e.sl m s hs).mono x fun c vs g' q => ⟨by rw [updG_ne (ne c m g')]; exact g', q⟩, fun m v' r' h => ?_⟩ ⟨a, vs, rfl, updG_same, ha, rl.mono x⟩⟩
    have hm : m < τ.length := (List.getElem?_eq_some_iff.mp h).1
    exact (e.pop.pop.tm m v' r' h).mono x fun c vs g' q => ⟨by rw [updG_ne (ne' c m (by rw [List.length_append]; omega) g')]; exact g', q⟩
  | newD t l =>
    obtain ⟨a, vs, rfl, g, ha, rl⟩ := e.top
    obtain ⟨gr, x, bg, fh⟩ := e.retag ha (.inr ⟨_, g⟩) (.tmp τ.length) (by simp)
    have ne : ∀ c m, G c = .slot m → c ≠ a := fun c m q z => by subst z; rw [q] at g; cases g
    have ne' : ∀ c m, m ≠ (τ ++ τ').length → G c = .tmp m → c ≠ a := fun c m hm q z => by subst z; rw [q] at g; cases g; exact hm rfl
    refine ⟨_, EnvOk.push ⟨gr, e.ns, e.nt, bg, fh, e.ln, fun m s hs => (e.sl m s hs).mono x fun c vs g' q => ⟨by rw [updG_ne (ne c m g')]; exact g', q⟩, fun m v' r' h => ?_⟩ ⟨a, vs, rfl, updG_same, ha, rl.mono x⟩⟩
    have hm : m < τ.length := (List.getElem?_eq_some_iff.mp h).1
    exact (e.pop.pop.tm m v' r' h).mono x fun c vs g' q => ⟨by rw [updG_ne (ne' c m (by rw [List.length_append]; omega) g')]; exact g', q⟩
/-- the new list on top grows -/
theorem EnvOk.grow {vs : List V} {y : V} {dy : D} (e : EnvOk K G0 H0 G H σ ρ n (τ ++ [(.ref a, .new l)])) (ha : H a = some (.lst vs)) (hy : Rep K G H y dy) :
    EnvOk K G0 H0 G (upd H a (.lst (vs ++ [y]))) σ ρ n (τ ++ [(.ref a, .new (l ++ [dy]))]) := by
  obtain ⟨a', vs', ea, g, ha', rl⟩ := e.top
  cases ea
  rw [ha] at ha'
  cases ha'
  have h0 := e.notIn (.inr ⟨_, g⟩)
  have x : Ext G H G (upd H a (.lst (vs ++ [y]))) := by
    refine ⟨fun c q => ⟨q, fun u z => ?_⟩, fun c xs q => ?_, fun c ob u q => ?_, fun _ _ q => q⟩
    · rw [upd_ne (fun y => by subst y; rw [q] at g; cases g)]; exact z
    · rw [upd_ne (ne_of q ha (by simp))]; exact q
    · rw [upd_ne (ne_of q ha (by simp))]; exact q
  refine EnvOk.push ⟨⟨fun c u q h1 h2 => ?_, e.gr.bagd, e.gr.bagl, fun c xs q => x.tup c xs (e.gr.tup c xs q), fun c ob u q => x.frz c ob u (e.gr.frz c ob u q)⟩, e.ns, e.nt, fun c b q => ?_, fun c q => ?_, e.ln, fun m s hs => (e.sl m s hs).mono x fun c vs g' q => ⟨g', ?_⟩, fun m v' r' h => ?_⟩ ⟨a, _, rfl, g, upd_same, (rl.append (.cons hy .nil)).mono x⟩
  · have hc : c ≠ a := fun z => by subst z; rw [h0] at q; cases q
    rw [upd_ne hc]; exact e.gr.keep c u q h1 h2
  · obtain ⟨gb, far, s, t, hc, hb, z⟩ := e.bg c b q
    exact ⟨gb, far, s, t, by rw [upd_ne (ne_of hc ha (by simp))]; exact hc, by rw [upd_ne (fun y => by subst y; rw [gb] at g; cases g)]; exact hb, z⟩
  · by_cases hc : c = a
    · subst hc; rw [upd_same] at q; cases q
    · rw [upd_ne hc] at q; exact e.fh c q
  · rw [upd_ne (fun y => by subst y; rw [g] at g'; cases g')]; exact q
  · have hm : m < τ.length := (List.getElem?_eq_some_iff.mp h).1
    refine (e.pop.tm m v' r' h).mono x fun c vs g' q => ⟨g', ?_⟩
    rw [upd_ne (fun y => by subst y; rw [g] at g'; cases g'; omega)]; exact q
end
end Ly

namespace Ly
open PySem PySem.Spec PyProof.Rows L2

abbrev KE := RV → List SV → Nat → Prop
abbrev TD := List SV → Nat → KE → Prop
abbrev TDT := List SV → Nat → (Bool → List SV → Nat → Prop) → Prop
abbrev TDA := List SV → Nat → (List RV → List SV → Nat → Prop) → Prop
structure DEnds where
  nx : List SV → Nat → Prop
  rt : D → Nat → Prop
  bk : List SV → Nat → Prop := fun _ _ => False
  ct : List SV → Nat → Prop := fun _ _ => False
abbrev TDS := DEnds → List SV → Nat → Prop
abbrev Bs := Gh × Hp

def tD (K : PySem.W.Frag) (B : Bs) (w : TD) : TE := fun σ H Q => ∃ G ρ n τ Q', EnvOk K B.1 B.2 G H σ ρ n τ ∧ w ρ n Q' ∧
  ∀ r ρ' n' v G' H', Q' r ρ' n' → EnvOk K B.1 B.2 G' H' σ ρ' n' (τ ++ [(v, r)]) → Q v H'
def tDT (K : PySem.W.Frag) (B : Bs) (w : TDT) : TT := fun σ H Q => ∃ G ρ n τ Q', EnvOk K B.1 B.2 G H σ ρ n τ ∧ w ρ n Q' ∧
  ∀ b ρ' n' G' H', Q' b ρ' n' → EnvOk K B.1 B.2 G' H' σ ρ' n' τ → Q b H'
def tDA (K : PySem.W.Frag) (B : Bs) (w : TDA) : TA := fun σ H Q => ∃ G ρ n τ Q', EnvOk K B.1 B.2 G H σ ρ n τ ∧ w ρ n Q' ∧
  ∀ rs ρ' n' vs G' H', Q' rs ρ' n' → vs.length = rs.length → EnvOk K B.1 B.2 G' H' σ ρ' n' (τ ++ vs.zip rs) → Q vs H'
def tDS (K : PySem.W.Frag) (B : Bs) (w : TDS) : TS := fun D σ H => ∃ G ρ n τ D', EnvOk K B.1 B.2 G H σ ρ n τ ∧ w D' ρ n ∧
  (∀ σ' ρ' n' G' H', D'.nx ρ' n' → EnvOk K B.1 B.2 G' H' σ' ρ' n' τ → D.nx σ' H') ∧
  (∀ d n' v G' H' σ' ρ', D'.rt d n' → Rep K G' H' v d → EnvOk K B.1 B.2 G' H' σ' ρ' n' τ → D.rt v H') ∧
  (∀ σ' ρ' n' G' H', D'.bk ρ' n' → EnvOk K B.1 B.2 G' H' σ' ρ' n' τ → D.bk σ' H') ∧
  (∀ σ' ρ' n' G' H', D'.ct ρ' n' → EnvOk K B.1 B.2 G' H' σ' ρ' n' τ → D.ct σ' H')
abbrev DE (X : Cx) (B : Bs) (e : Expr) (w : TD) : Prop := PE X e (tD X.K B w)
abbrev DT (X : Cx) (B : Bs) (e : Expr) (w : TDT) : Prop := PT X e (tDT X.K B w)
abbrev DA (X : Cx) (B : Bs) (es : List Expr) (w : TDA) : Prop := PA X es (tDA X.K B w)
abbrev DS (X : Cx) (B : Bs) (st : Stmt) (w : TDS) : Prop := PS X st (tDS X.K B w)
abbrev DSs (X : Cx) (B : Bs) (st : List Stmt) (w : TDS) : Prop := PSs X st (tDS X.K B w)

theorem PE.imp {X : Cx} {e : Expr} {t t' : TE} (h : PE X e t) (i : ∀ σ H Q, t' σ H Q → t σ H Q) : PE X e t' := ⟨fun pins s σ H Q I q => h.run pins s σ H Q I (i _ _ _ q)⟩
theorem PT.imp {X : Cx} {e : Expr} {t t' : TT} (h : PT X e t) (i : ∀ σ H Q, t' σ H Q → t σ H Q) : PT X e t' := ⟨fun pins s σ H Q I q => h.run pins s σ H Q I (i _ _ _ q)⟩
theorem PW.imp {X : Cx} {e : Expr} {t t' : TT} (h : PW X e t) (i : ∀ σ H Q, t' σ H Q → t σ H Q) : PW X e t' := ⟨fun wh pins s σ H Q I q => h.run wh pins s σ H Q I (i _ _ _ q)⟩
theorem PA.imp {X : Cx} {e : List Expr} {t t' : TA} (h : PA X e t) (i : ∀ σ H Q, t' σ H Q → t σ H Q) : PA X e t' := ⟨fun pos pins s σ H Q I q => h.run pos pins s σ H Q I (i _ _ _ q)⟩
theorem PS.imp {X : Cx} {e : Stmt} {t t' : TS} (h : PS X e t) (i : ∀ D σ H, t' D σ H → t D σ H) : PS X e t' := ⟨fun pins s σ H Q I q => h.run pins s σ H Q I (i _ _ _ q)⟩
theorem PSs.imp {X : Cx} {e : List Stmt} {t t' : TS} (h : PSs X e t) (i : ∀ D σ H, t' D σ H → t D σ H) : PSs X e t' := ⟨fun pins s σ H Q I q => h.run pins s σ H Q I (i _ _ _ q)⟩

section
variable {X : Cx} {B : Bs} {a b c e : Expr} {es : List Expr} {pos : Pos} {wa wb wc : TD} {ws : TDA} {wt : TDT}

/-! ### constants, names -/
def wC (d : D) : TD := fun ρ n Q => Q (.val d) ρ n
theorem de_of {v : V} {d : D} (h : PE X e (tC v)) (r : ∀ G H, Rep X.K G H v d) : DE X B e (wC d) :=
  PE.imp h fun σ H Q ⟨G, ρ, n, τ, Q', e, hw, k⟩ => k _ _ _ _ _ _ hw (e.push (r G H))
theorem de_int {i j pos} : DE X B (.Constant (.int i) j pos) (wC (.int i)) := de_of pe_int fun _ _ => .int i
theorem de_str {i j pos} : DE X B (.Constant (.str i) j pos) (wC (.str i)) := de_of pe_str fun _ _ => .str i
theorem de_bl {i j pos} : DE X B (.Constant (.bool i) j pos) (wC (.bl i)) := de_of pe_bl fun _ _ => .bl i
theorem de_non {j pos} : DE X B (.Constant .none j pos) (wC .non) := de_of pe_non fun _ _ => .non
theorem de_glob {x : Str} {i : Int} {t : Tok} {pos : Pos} (hg : Gl X x) (hm : X.mg x = some (.int i t)) (hd : (x == ("__debug__" : Str)) = false) : DE X B (.Name x pos) (wC (.int i)) :=
  de_of (v := .int i) (pe_glob hg hm ⟨t, rfl⟩ hd) fun _ _ => .int i
def wV (i : Nat) : TD := fun ρ n Q => match ρ[i]? with
  | some (.val d) => Q (.val d) ρ n
  | some (.own l) => Q (.val (.lst l)) (ρ.set i (.val (.lst l))) n
  | _ => False
theorem de_var {i : Nat} {x : Str} {pos : Pos} (h : PE X (.Name x pos) (tVar i)) : DE X B (.Name x pos) (wV i) :=
  PE.imp h fun σ H Q ⟨G, ρ, n, τ, Q', e, hw, k⟩ => by
    unfold wV at hw
    split at hw
    · rename_i d hd
      obtain ⟨v, ev, rv⟩ := e.sl i _ hd
      exact ⟨v, ev, k _ _ _ _ _ _ hw (e.push rv)⟩
    · rename_i l hl
      obtain ⟨a, vs, ea, _⟩ := e.sl i _ hl
      obtain ⟨G', x, e'⟩ := e.freezeS hl
      refine ⟨_, ea, k _ _ _ _ _ _ hw (e'.push ?_)⟩
      obtain ⟨v, ev, rv⟩ := e'.sl i (.val (.lst l)) (by rw [List.getElem?_set_self (List.getElem?_eq_some_iff.mp hl).1])
      rw [ea] at ev; cases ev
      exact rv
    · exact hw.elim

/-! ### arguments -/
def wNil : TDA := fun ρ n Q => Q [] ρ n
def wCons (w : TD) (ws : TDA) : TDA := fun ρ n Q => w ρ n fun r ρ1 n1 => ws ρ1 n1 fun rs ρ2 n2 => Q (r :: rs) ρ2 n2
theorem da_nil : DA X B [] wNil := PA.imp pa_nil fun σ H Q ⟨G, ρ, n, τ, Q', e, hw, k⟩ => k _ _ _ [] _ _ hw rfl (by simpa using e)
theorem da_cons (ha : DE X B e wa) (hr : DA X B es ws) (hs : starEach (e :: es) X.env = (false, eval e X.env) :: starEach es X.env := by rfl) : DA X B (e :: es) (wCons wa ws) :=
  PA.imp (pa_cons ha hr hs) fun σ H Q ⟨G, ρ, n, τ, Q', e, hw, k⟩ =>
    ⟨G, ρ, n, τ, _, e, hw, fun r ρ' n' v G' H' h1 e1 => ⟨G', ρ', n', τ ++ [(v, r)], _, e1, h1, fun rs ρ2 n2 vs G2 H2 h2 hl e2 => k _ _ _ (v :: vs) _ _ h2 (by rw [List.length_cons, List.length_cons, hl]) (by
      rw [List.zip_cons_cons, List.append_cons]; exact e2)⟩⟩
end
def dOf : RV → D
  | .val d => d
  | .new l => .lst l
  | .newD _ _ => .dct
theorem frz_val (r : RV) : frz r = .val (dOf r) := by cases r <;> rfl
section
variable {K : PySem.W.Frag} {G0 G : Gh} {H0 H : Hp} {σ : L2.St} {ρ : List SV} {n : Nat} {τ : List (V × RV)}
theorem EnvOk.freezeAll : ∀ (rs : List RV) (vs : List V) (τ : List (V × RV)) (G : Gh), vs.length = rs.length → EnvOk K G0 H0 G H σ ρ n (τ ++ vs.zip rs) → ∃ G', Ext G H G' H ∧ EnvOk K G0 H0 G' H σ ρ n τ ∧ RepL K G' H vs (rs.map dOf)
  | [], [], τ, G, _, e => ⟨G, .refl, e.pop, .nil⟩
  | [], _ :: _, _, _, h, _ => by simp at h
  | _ :: _, [], _, _, h, _ => by simp at h
  | r :: rs, v :: vs, τ, G, h, e => by
    rw [List.zip_cons_cons, List.append_cons] at e
    obtain ⟨G1, x1, e1, r1⟩ := EnvOk.freezeAll rs vs (τ ++ [(v, r)]) G (by simpa using h) e
    obtain ⟨G2, x2, e2⟩ := e1.freeze
    rw [frz_val] at e2
    exact ⟨G2, x1.trans x2, e2.pop, .cons e2.topV (r1.mono x2)⟩
end
section
variable {X : Cx} {B : Bs} {a b c e : Expr} {es : List Expr} {pos : Pos} {wa wb wc : TD} {ws : TDA} {wt : TDT}
/-! ### tuples, lists -/
def wTup (ws : TDA) : TD := fun ρ n Q => ws ρ n fun rs ρ1 n1 => rs.length ≤ sizeLine ∧ Q (.val (.tup (rs.map dOf))) ρ1 n1
def wLst (ws : TDA) : TD := fun ρ n Q => ws ρ n fun rs ρ1 n1 => rs.length ≤ sizeLine ∧ Q (.new (rs.map dOf)) ρ1 n1
theorem de_tup {x1} (h : DA X B es ws) : DE X B (.Tuple es x1 pos) (wTup ws) :=
  PE.imp (pe_tup h) fun σ H Q ⟨G, ρ, n, τ, Q', e, hw, k⟩ => ⟨G, ρ, n, τ, _, e, hw, fun rs ρ' n' vs G' H' h1 hl e1 => by
    obtain ⟨G2, x2, e2, rl⟩ := EnvOk.freezeAll rs vs τ G' hl e1
    exact ⟨by rw [hl]; exact h1.1, fun p hp => k _ _ _ _ _ _ h1.2 ((e2.alloc hp (.tup vs) .free (by simp)).push (.tup upd_same (rl.mono (Ext.alloc e2 hp))))⟩⟩
theorem EnvOk.pushNew {K : PySem.W.Frag} {G0 G : Gh} {H0 H : Hp} {σ : L2.St} {ρ : List SV} {n : Nat} {τ : List (V × RV)} {p : Addr} {vs : List V} {ds : List D} (e : EnvOk K G0 H0 G H σ ρ n τ) (hp : H p = none) (rl : RepL K G H vs ds) :
    EnvOk K G0 H0 (updG G p (.tmp τ.length)) (upd H p (.lst vs)) σ ρ n (τ ++ [(.ref p, .new ds)]) :=
  (e.alloc hp (.lst vs) (.tmp τ.length) (by simp)).push ⟨p, vs, rfl, updG_same, upd_same, rl.mono (Ext.alloc e hp)⟩
theorem EnvOk.pushTup {K : PySem.W.Frag} {G0 G : Gh} {H0 H : Hp} {σ : L2.St} {ρ : List SV} {n : Nat} {τ : List (V × RV)} {p : Addr} {vs : List V} {ds : List D} (e : EnvOk K G0 H0 G H σ ρ n τ) (hp : H p = none) (rl : RepL K G H vs ds) :
    EnvOk K G0 H0 (updG G p .free) (upd H p (.tup vs)) σ ρ n (τ ++ [(.ref p, .val (.tup ds))]) :=
  (e.alloc hp (.tup vs) .free (by simp)).push (.tup upd_same (rl.mono (Ext.alloc e hp)))
theorem de_lst (h : DA X B es ws) : DE X B (.List es pos) (wLst ws) :=
  PE.imp (pe_lst h) fun σ H Q ⟨G, ρ, n, τ, Q', e, hw, k⟩ => ⟨G, ρ, n, τ, _, e, hw, fun rs ρ' n' vs G' H' h1 hl e1 => by
    obtain ⟨G2, x2, e2, rl⟩ := EnvOk.freezeAll rs vs τ G' hl e1
    exact ⟨by rw [hl]; exact h1.1, fun p hp => k _ _ _ _ _ _ h1.2 (e2.pushNew hp rl)⟩⟩

/-! ### operators: by a rule over values, and what it is over data -/
abbrev G2 := RV → RV → (RV → Prop) → Prop
def SndO (K : PySem.W.Frag) (B : Bs) (g : G2) (r2 : R2) : Prop := ∀ (G : Gh) (H : Hp) (σ : L2.St) (ρ : List SV) (n : Nat) (τ : List (V × RV)) (v1 v2 : V) (r1 r2' : RV) (R : RV → Prop) (Q : VK),
  EnvOk K B.1 B.2 G H σ ρ n (τ ++ [(v1, r1)] ++ [(v2, r2')]) → g r1 r2' R → (∀ r v G' H', R r → EnvOk K B.1 B.2 G' H' σ ρ n (τ ++ [(v, r)]) → Q v H') → r2 v1 v2 H Q
def wOp (g : G2) (wa wb : TD) : TD := fun ρ n Q => wa ρ n fun r1 ρ1 n1 => wb ρ1 n1 fun r2 ρ2 n2 => g r1 r2 fun r => Q r ρ2 n2
theorem tOp_of {K : PySem.W.Frag} {g : G2} {r : R2} (s : SndO K B g r) {σ : L2.St} {H : Hp} {Q : VK} (h : tD K B (wOp g wa wb) σ H Q) : tOp r (tD K B wa) (tD K B wb) σ H Q := by
  obtain ⟨G, ρ, n, τ, Q', e, hw, k⟩ := h
  exact ⟨G, ρ, n, τ, _, e, hw, fun r1 ρ1 n1 v1 G1 H1 h1 e1 => ⟨G1, ρ1, n1, _, _, e1, h1, fun r2 ρ2 n2 v2 G2 H2 h2 e2 => s _ _ _ _ _ _ _ _ _ _ _ _ e2 h2 fun r v G' H' hR e3 => k _ _ _ _ _ _ hR e3⟩⟩
theorem de_op {op : Operator} {r : R2} {g : G2} (s : SndO X.K B g r) (ho : OpR X (binaryOp op) r) (ha : DE X B a wa) (hb : DE X B b wb) : DE X B (.BinOp a op b pos) (wOp g wa wb) :=
  PE.imp (pe_op ho ha hb) fun _ _ _ h => tOp_of s h
theorem de_cmp {op : CmpOp} {r : R2} {g : G2} (s : SndO X.K B g r) (ho : OpR X (compareOp op) r) (ha : DE X B a wa) (hb : DE X B b wb) (hm : behindInMarks op b = false) : DE X B (.Compare a [op] [b] pos) (wOp g wa wb) :=
  PE.imp (pe_cmpR ho ha hb hm) fun _ _ _ h => tOp_of s h
/-- a value that is a truth value, as a test -/
def wTst (w : TD) : TDT := fun ρ n Q => w ρ n fun r ρ1 n1 => ∃ b, r = .val (.bl b) ∧ Q b ρ1 n1
theorem tTest_of {K : PySem.W.Frag} {t : TE} {w : TD} (i : ∀ σ H Q, tD K B w σ H Q → t σ H Q) {σ : L2.St} {H : Hp} {Q : Bool → Hp → Prop} (h : tDT K B (wTst w) σ H Q) : tTest t σ H Q := by
  obtain ⟨G, ρ, n, τ, Q', e, hw, k⟩ := h
  refine i _ _ _ ⟨G, ρ, n, τ, _, e, hw, fun r ρ' n' v G' H' ⟨b, hb, h1⟩ e1 => ?_⟩
  subst hb
  have := e1.topV
  cases this
  exact ⟨b, rfl, k _ _ _ _ _ h1 e1.pop⟩
theorem dt_cmp {op : CmpOp} {r : R2} {g : G2} (s : SndO X.K B g r) (ho : OpR X (compareOp op) r) (ha : DE X B a wa) (hb : DE X B b wb) (hm : behindInMarks op b = false) : DT X B (.Compare a [op] [b] pos) (wTst (wOp g wa wb)) :=
  PT.imp (pt_cmpR ho ha hb hm) fun _ _ _ h => tTest_of (fun _ _ _ h => tOp_of s h) h
theorem dt_val (h : DE X B e wa) (he : ∀ whole, isTrue e X.env whole = (do let v ← whole; standAt e.pos; holding [v] (truthy v)) := by intro _; rfl) : DT X B e (wTst wa) :=
  PT.imp (pt_val h he) fun _ _ _ h => tTest_of (fun _ _ _ h => h) h
/-- a chain of two comparisons -/
def wChain (g g' : G2) (wa wb wc : TD) : TD := fun ρ n Q => wa ρ n fun r1 ρ1 n1 => wb ρ1 n1 fun r2 ρ2 n2 => ∃ j, r2 = .val (.int j) ∧ g r1 r2 fun z => ∃ k, z = .val (.bl k) ∧
  if k = true then wc ρ2 n2 fun r3 ρ3 n3 => g' r2 r3 fun r => Q r ρ3 n3 else Q (.val (.bl false)) ρ2 n2
theorem tChain_of {K : PySem.W.Frag} {r r' : R2} {g g' : G2} (s : SndO K B g r) (s' : SndO K B g' r') {σ : L2.St} {H : Hp} {Q : VK} (h : tD K B (wChain g g' wa wb wc) σ H Q) : tChain r r' (tD K B wa) (tD K B wb) (tD K B wc) σ H Q := by
  obtain ⟨G, ρ, n, τ, Q', e, hw, k⟩ := h
  exact ⟨G, ρ, n, τ, _, e, hw, fun r1 ρ1 n1 v1 G1 H1 h1 e1 => ⟨G1, ρ1, n1, _, _, e1, h1, fun r2 ρ2 n2 v2 G2 H2 h2 e2 => by
    obtain ⟨j, rfl, h2⟩ := h2
    have rep2 := e2.topV
    cases rep2
    refine s _ _ σ ρ2 n2 τ _ _ _ _ _ _ e2 h2 fun z v G' H' hz e3 => ?_
    obtain ⟨b, rfl, hz⟩ := hz
    have rep3 := e3.topV
    cases rep3
    refine ⟨b, rfl, ?_⟩
    cases b with
    | false => exact iteF (k _ _ _ _ _ _ hz e3)
    | true =>
      refine iteT ⟨G', ρ2, n2, τ ++ [(.int j, .val (.int j))], _, e3.pop.pushV (.int j), hz, fun r3 ρ3 n3 v3 G4 H4 h3 e4 => ?_⟩
      exact s' _ _ σ ρ3 n3 τ _ _ _ _ _ _ e4 h3 fun r v G' H' hR e5 => k _ _ _ _ _ _ hR e5⟩⟩
theorem de_chain {op op' : CmpOp} {r r' : R2} {g g' : G2} (s : SndO X.K B g r) (s' : SndO X.K B g' r') (ho : OpR X (compareOp op) r) (ho' : OpR X (compareOp op') r') (ha : DE X B a wa) (hb : DE X B b wb) (hc : DE X B c wc)
    (hm : lastMarks [op, op'] [b, c] = false := by with_unfolding_all rfl) : DE X B (.Compare a [op, op'] [b, c] pos) (wChain g g' wa wb wc) :=
  PE.imp (pe_chain ho ho' ha hb hc hm) fun _ _ _ h => tChain_of s s' h
theorem dt_chain {op op' : CmpOp} {r r' : R2} {g g' : G2} (s : SndO X.K B g r) (s' : SndO X.K B g' r') (ho : OpR X (compareOp op) r) (ho' : OpR X (compareOp op') r') (ha : DE X B a wa) (hb : DE X B b wb) (hc : DE X B c wc)
    (hm : lastMarks [op, op'] [b, c] = false := by with_unfolding_all rfl) : DT X B (.Compare a [op, op'] [b, c] pos) (wTst (wChain g g' wa wb wc)) :=
  PT.imp (pt_chain ho ho' ha hb hc hm) fun _ _ _ h => tTest_of (fun _ _ _ h => tChain_of s s' h) h
end
end Ly

namespace Ly
open PySem PySem.Spec PyProof.Rows L2

def listOf : RV → Option (List D)
  | .val (.lst l) => some l
  | .new l => some l
  | _ => none
theorem tmp_list {K : PySem.W.Frag} {G : Gh} {H : Hp} {j : Nat} {v : V} {r : RV} {l : List D} (h : TmpOk K G H j v r) (e : listOf r = some l) : ∃ a vs, v = .ref a ∧ H a = some (.lst vs) ∧ RepL K G H vs l := by
  cases r with
  | new l' => cases e; obtain ⟨a, vs, e, g, q, rl⟩ := h; exact ⟨a, vs, e, q, rl⟩
  | newD t m => cases e
  | val d =>
    cases d with
    | lst l' => cases e; cases h with | lst g q rl => exact ⟨_, _, rfl, q, rl⟩
    | _ => cases e
/-- a sequence that is read: a tuple, a list -/
def seqOf : RV → Option (List D)
  | .val (.lst l) => some l
  | .val (.tup l) => some l
  | .new l => some l
  | _ => none
theorem tmp_seq {K : PySem.W.Frag} {G : Gh} {H : Hp} {j : Nat} {v : V} {r : RV} {l : List D} (h : TmpOk K G H j v r) (e : seqOf r = some l) : ∃ a vs, v = .ref a ∧ (SqL K H a vs ∨ SqT K H a vs) ∧ RepL K G H vs l := by
  cases r with
  | new l' => cases e; obtain ⟨a, vs, e, g, q, rl⟩ := h; exact ⟨a, vs, e, .inl (SqL.of q), rl⟩
  | newD t m => cases e
  | val d =>
    cases d with
    | lst l' => cases e; cases h with | lst g q rl => exact ⟨_, _, rfl, .inl (SqL.of q), rl⟩
    | tup l' => cases e; cases h with | tup q rl => exact ⟨_, _, rfl, .inr (SqT.of q), rl⟩
    | _ => cases e
theorem tmp_seqT {K : PySem.W.Frag} {G : Gh} {H : Hp} {j : Nat} {v : V} {r : RV} {l : List D} (h : TmpOk K G H j v r) (e : seqOf r = some l) : ∃ a vs, v = .ref a ∧ (SqL K H a vs ∨ H a = some (.tup vs)) ∧ RepL K G H vs l := by
  cases r with
  | new l' => cases e; obtain ⟨a, vs, e, g, q, rl⟩ := h; exact ⟨a, vs, e, .inl (SqL.of q), rl⟩
  | newD t m => cases e
  | val d =>
    cases d with
    | lst l' => cases e; cases h with | lst g q rl => exact ⟨_, _, rfl, .inl (SqL.of q), rl⟩
    | tup l' => cases e; cases h with | tup q rl => exact ⟨_, _, rfl, .inr q, rl⟩
    | _ => cases e
section
variable {X : Cx} {B : Bs} {a b c e : Expr} {es : List Expr} {pos : Pos} {wa wb wc : TD} {ws : TDA} {wt : TDT} {K : PySem.W.Frag}

/-! ### ints -/
def gI (C : Int → Int → Prop) (f : Int → Int → D) : G2 := fun r1 r2 R => ∃ i j, r1 = .val (.int i) ∧ r2 = .val (.int j) ∧ C i j ∧ R (.val (f i j))
def vD : V → D
  | .int i => .int i
  | .bl b => .bl b
  | _ => .non
theorem snd_rI {C : Int → Int → Prop} {f : Int → Int → V} {g : Int → Int → D} (hf : ∀ (G : Gh) (H : Hp) i j, Rep K G H (f i j) (g i j)) : SndO K B (gI C g) (rI C f) := by
  rintro G H σ ρ n τ v1 v2 r1 r2 R Q e ⟨i, j, rfl, rfl, hc, hR⟩ k
  have h2 := e.topV
  have h1 := e.pop.topV
  cases h1
  cases h2
  exact ⟨i, j, rfl, rfl, hc, k _ _ _ _ hR (e.pop.pop.pushV (hf _ _ _ _))⟩
theorem snd_rI0 {f : Int → Int → V} {g : Int → Int → D} (hf : ∀ (G : Gh) (H : Hp) i j, Rep K G H (f i j) (g i j)) : SndO K B (gI (fun _ _ => True) g) (rI0 f) := by
  rintro G H σ ρ n τ v1 v2 r1 r2 R Q e ⟨i, j, rfl, rfl, hc, hR⟩ k
  have h2 := e.topV
  have h1 := e.pop.topV
  cases h1
  cases h2
  exact ⟨i, j, rfl, rfl, k _ _ _ _ hR (e.pop.pop.pushV (hf _ _ _ _))⟩
theorem SndO.or {g g' : G2} {r r' : R2} (h : SndO K B g r) (h' : SndO K B g' r') : SndO K B (fun a b R => g a b R ∨ g' a b R) (fun x y H Q => r x y H Q ∨ r' x y H Q) := by
  rintro G H σ ρ n τ v1 v2 r1 r2 R Q e (hg | hg) k
  · exact .inl (h _ _ _ _ _ _ _ _ _ _ _ _ e hg k)
  · exact .inr (h' _ _ _ _ _ _ _ _ _ _ _ _ e hg k)
theorem SndO.imp {g g' : G2} {r : R2} (h : SndO K B g r) (i : ∀ a b R, g' a b R → g a b R) : SndO K B g' r := fun G H σ ρ n τ v1 v2 r1 r2 R Q e hg k => h _ _ _ _ _ _ _ _ _ _ _ _ e (i _ _ _ hg) k
abbrev gMinus : G2 := gI (fun _ _ => True) fun i j => .int (i - j)
abbrev gMod : G2 := gI (fun _ j => j ≠ 0) fun i j => .int (i.fmod j)
abbrev gDiv : G2 := gI CDivN fun i j => .int (i.fdiv j)
abbrev gPow : G2 := gI CPow fun i j => .int (i ^ j.toNat)
abbrev gLt : G2 := gI (fun _ _ => True) fun i j => .bl (decide (i < j))
abbrev gLe : G2 := gI (fun _ _ => True) fun i j => .bl (decide (i ≤ j))
abbrev gGt : G2 := gI (fun _ _ => True) fun i j => .bl (decide (j < i))
abbrev gGe : G2 := gI (fun _ _ => True) fun i j => .bl (decide (j ≤ i))
theorem de_sub (ha : DE X B a wa) (hb : DE X B b wb) : DE X B (.BinOp a .Sub b pos) (wOp gMinus wa wb) := de_op (snd_rI0 fun _ _ i j => .int (i - j)) op_sub ha hb
theorem de_mod (ha : DE X B a wa) (hb : DE X B b wb) : DE X B (.BinOp a .Mod b pos) (wOp gMod wa wb) := de_op (snd_rI fun _ _ i j => .int (i.fmod j)) op_modN ha hb
theorem de_div (ha : DE X B a wa) (hb : DE X B b wb) : DE X B (.BinOp a .FloorDiv b pos) (wOp gDiv wa wb) := de_op (snd_rI fun _ _ i j => .int (i.fdiv j)) op_fdivN ha hb
theorem de_pow (ha : DE X B a wa) (hb : DE X B b wb) : DE X B (.BinOp a .Pow b pos) (wOp gPow wa wb) := de_op (snd_rI fun _ _ i j => .int (i ^ j.toNat)) op_pow ha hb
theorem snd_lt : SndO K B gLt (rI0 fun i j => .bl (decide (i < j))) := snd_rI0 fun _ _ i j => .bl _
theorem snd_le : SndO K B gLe (rI0 fun i j => .bl (decide (i ≤ j))) := snd_rI0 fun _ _ i j => .bl _
theorem snd_gt : SndO K B gGt (rI0 fun i j => .bl (decide (j < i))) := snd_rI0 fun _ _ i j => .bl _
theorem snd_ge : SndO K B gGe (rI0 fun i j => .bl (decide (j ≤ i))) := snd_rI0 fun _ _ i j => .bl _
theorem de_lt (ha : DE X B a wa) (hb : DE X B b wb) : DE X B (.Compare a [.Lt] [b] pos) (wOp gLt wa wb) := de_cmp snd_lt op_lt ha hb (nomark _)
theorem de_le (ha : DE X B a wa) (hb : DE X B b wb) : DE X B (.Compare a [.LtE] [b] pos) (wOp gLe wa wb) := de_cmp snd_le op_le ha hb (nomark _)
theorem de_gt (ha : DE X B a wa) (hb : DE X B b wb) : DE X B (.Compare a [.Gt] [b] pos) (wOp gGt wa wb) := de_cmp snd_gt op_gt ha hb (nomark _)
theorem de_ge (ha : DE X B a wa) (hb : DE X B b wb) : DE X B (.Compare a [.GtE] [b] pos) (wOp gGe wa wb) := de_cmp snd_ge op_ge ha hb (nomark _)
theorem dt_lt (ha : DE X B a wa) (hb : DE X B b wb) : DT X B (.Compare a [.Lt] [b] pos) (wTst (wOp gLt wa wb)) := dt_cmp snd_lt op_lt ha hb (nomark _)
theorem dt_le (ha : DE X B a wa) (hb : DE X B b wb) : DT X B (.Compare a [.LtE] [b] pos) (wTst (wOp gLe wa wb)) := dt_cmp snd_le op_le ha hb (nomark _)
theorem dt_gt (ha : DE X B a wa) (hb : DE X B b wb) : DT X B (.Compare a [.Gt] [b] pos) (wTst (wOp gGt wa wb)) := dt_cmp snd_gt op_gt ha hb (nomark _)
theorem dt_ge (ha : DE X B a wa) (hb : DE X B b wb) : DT X B (.Compare a [.GtE] [b] pos) (wTst (wOp gGe wa wb)) := dt_cmp snd_ge op_ge ha hb (nomark _)
theorem de_chainLL (ha : DE X B a wa) (hb : DE X B b wb) (hc : DE X B c wc) (hm : lastMarks [.LtE, .LtE] [b, c] = false := by with_unfolding_all rfl) : DE X B (.Compare a [.LtE, .LtE] [b, c] pos) (wChain gLe gLe wa wb wc) := de_chain snd_le snd_le op_le op_le ha hb hc hm
theorem dt_chainLL (ha : DE X B a wa) (hb : DE X B b wb) (hc : DE X B c wc) (hm : lastMarks [.LtE, .LtE] [b, c] = false := by with_unfolding_all rfl) : DT X B (.Compare a [.LtE, .LtE] [b, c] pos) (wTst (wChain gLe gLe wa wb wc)) := dt_chain snd_le snd_le op_le op_le ha hb hc hm
/-! ### + -/
def gAdd : G2 := fun r1 r2 R => match r1, r2 with
  | .val (.int i), .val (.int j) => R (.val (.int (i + j)))
  | .val (.tup x), .val (.tup y) => x.length + y.length ≤ sizeLine ∧ R (.val (.tup (x ++ y)))
  | .val (.str x), .val (.str y) => x.length + y.length ≤ sizeLine ∧ R (.val (.str (x ++ y)))
  | r1, r2 => match listOf r1, listOf r2 with
    | some x, some y => x.length + y.length ≤ sizeLine ∧ R (.new (x ++ y))
    | _, _ => False
def rAddAll (K : PySem.W.Frag) : R2 := fun x y H Q => (rI0 fun i j => .int (i + j)) x y H Q ∨ rCatA K x y H Q ∨ (fun (x y : V) (H : Hp) (Q : VK) => ∃ i j, x = .str i ∧ y = .str j ∧ i.length + j.length ≤ sizeLine ∧ Q (.str (i ++ j)) H) x y H Q ∨ rCat x y H Q
theorem op_addAll : OpR X (binaryOp .Add) (rAddAll X.K) := op_add.or (op_catA.or (op_add_str.or op_cat))
theorem snd_add : SndO K B gAdd (rAddAll K) := by
  intro G H σ ρ n τ v1 v2 r1 r2 R Q e hg k
  have lists : ∀ x y, listOf r1 = some x → listOf r2 = some y → x.length + y.length ≤ sizeLine → R (.new (x ++ y)) → rAddAll K v1 v2 H Q := fun x y e1 e2 hl hR => by
    obtain ⟨a1, vs1, rfl, q1, l1⟩ := tmp_list e.top2 e1
    obtain ⟨a2, vs2, rfl, q2, l2⟩ := tmp_list e.top e2
    exact .inr (.inr (.inr ⟨a1, a2, vs1, vs2, rfl, rfl, q1, q2, by rw [l1.length, l2.length]; exact hl, fun p hp => k _ _ _ _ hR (e.pop.pop.pushNew hp (l1.append l2))⟩))
  unfold gAdd at hg
  split at hg
  · have h2 := e.topV
    have h1 := e.pop.topV
    cases h1
    cases h2
    exact .inl ⟨_, _, rfl, rfl, k _ _ _ _ hg (e.pop.pop.pushV (.int _))⟩
  · have h2 := e.topV
    have h1 := e.pop.topV
    cases h1 with | tup s1 l1 => cases h2 with | tup s2 l2 =>
    refine .inr (.inl ⟨_, _, _, _, rfl, rfl, SqT.of s1, SqT.of s2, by rw [l1.length, l2.length]; exact hg.1, fun z => ?_, fun _ z => ?_, fun _ _ p hp => k _ _ _ _ hg.2 (e.pop.pop.pushTup hp (l1.append l2))⟩)
    · have z' := l1.nil_iff.mp z
      rw [z'] at hg
      exact k _ _ _ _ hg.2 (e.pop.pop.pushV (.tup s2 l2))
    · have z' := l2.nil_iff.mp z
      rw [z', List.append_nil] at hg
      exact k _ _ _ _ hg.2 (e.pop.pop.pushV (.tup s1 l1))
  · have h2 := e.topV
    have h1 := e.pop.topV
    cases h1
    cases h2
    exact .inr (.inr (.inl ⟨_, _, rfl, rfl, hg.1, k _ _ _ _ hg.2 (e.pop.pop.pushV (.str _))⟩))
  · split at hg
    · exact lists _ _ (by assumption) (by assumption) hg.1 hg.2
    · exact hg.elim
theorem de_add (ha : DE X B a wa) (hb : DE X B b wb) : DE X B (.BinOp a .Add b pos) (wOp gAdd wa wb) := de_op snd_add op_addAll ha hb

/-! ### == and != -/
mutual
def toPy : D → Option PyData
  | .non => some .none
  | .bl b => some (.bool b)
  | .int i => some (.int i)
  | .str x => some (.str x)
  | .tup l => (toPys l).map .tuple
  | .lst l => (toPys l).map .list
  | _ => none
def toPys : List D → Option (List PyData)
  | [] => some []
  | d :: l => match toPy d, toPys l with
    | some x, some y => some (x :: y)
    | _, _ => none
end
mutual
theorem Rep.dp {G : Gh} {H : Hp} : ∀ {v : V} {d : D} {p : PyData}, Rep K G H v d → toPy d = some p → Dp K H v p
  | _, .non, _, .non, e => by cases e; exact .non
  | _, .bl _, _, .bl _, e => by cases e; exact .bl _
  | _, .int _, _, .int _, e => by cases e; exact .int _
  | _, .str _, _, .str _, e => by cases e; exact .str _
  | _, .tup l, _, .tup q r, e => by
    simp only [toPy] at e
    cases h : toPys l with
    | none => rw [h] at e; cases e
    | some ps => rw [h] at e; cases e; exact .tup (SqT.of q) (RepL.dp r h)
  | _, .lst l, _, .lst _ q r, e => by
    simp only [toPy] at e
    cases h : toPys l with
    | none => rw [h] at e; cases e
    | some ps => rw [h] at e; cases e; exact .lst (SqL.of q) (RepL.dp r h)
  | _, .dct, _, .dct _ _ _, e => by cases e
  | _, .dc0, _, .dc0 _ _, e => by cases e
  | _, .bag _, _, .bag _, e => by cases e
  | _, .ty _, _, .ty _, e => by cases e
  | _, .scr _, _, .scr _, e => by cases e
theorem RepL.dp {G : Gh} {H : Hp} : ∀ {vs : List V} {ds : List D} {ps : List PyData}, RepL K G H vs ds → toPys ds = some ps → DpAll K H vs ps
  | _, [], _, .nil, e => by cases e; exact .nil
  | _, d :: ds, _, .cons r t, e => by
    simp only [toPys] at e
    cases h1 : toPy d with
    | none => rw [h1] at e; cases e
    | some x =>
      cases h2 : toPys ds with
      | none => rw [h1, h2] at e; cases e
      | some y => rw [h1, h2] at e; cases e; exact .cons (Rep.dp r h1) (RepL.dp t h2)
end
theorem TmpOk.dp {G : Gh} {H : Hp} {j : Nat} {v : V} {r : RV} {p : PyData} (h : TmpOk K G H j v r) (e : toPy (dOf r) = some p) : Dp K H v p := by
  cases r with
  | val d => exact Rep.dp h e
  | new l =>
    obtain ⟨a, vs, rfl, g, q, rl⟩ := h
    simp only [dOf, toPy] at e
    cases h : toPys l with
    | none => rw [h] at e; cases e
    | some ps => rw [h] at e; cases e; exact .lst (SqL.of q) (RepL.dp rl h)
  | newD t m => cases e
/-- == of data; ne: != -/
def gEq (ne : Bool) : G2 := fun r1 r2 R => match r1, r2 with
  | .val (.int i), .val (.int j) => R (.val (.bl (xor ne (decide (i = j)))))
  | .val (.str i), .val (.str j) => R (.val (.bl (xor ne (decide (i = j)))))
  | r1, .new [] => ∃ l, listOf r1 = some l ∧ R (.val (.bl (xor ne l.isEmpty)))
  | r1, r2 => ∃ p q, toPy (dOf r1) = some p ∧ toPy (dOf r2) = some q ∧ SeqAt.shaped p = true ∧ SeqAt.shaped q = true ∧ R (.val (.bl (xor ne (PyData.eqv p q))))
/-- a list against an empty one: by the lengths -/
def rEmp (K : PySem.W.Frag) (ne : Bool) : R2 := fun x y H Q => ∃ a b xs, x = .ref a ∧ y = .ref b ∧ SqL K H a xs ∧ SqL K H b [] ∧ Q (.bl (xor ne xs.isEmpty)) H
theorem op_eqEmp (hu : X.A.units < cLine) : OpR X (compareOp .Eq) (rEmp X.K false) := by
  intro pins st sl H x y v u Q I rx ry hh
  obtain ⟨a, b, xs, rfl, rfl, h1, h2, q⟩ := hh
  cases rx
  cases ry
  obtain ⟨its, r1, p1, _⟩ := I.list h1
  obtain ⟨its2, r2, p2, _⟩ := I.list h2
  cases r2
  rw [Bool.false_xor] at q
  cases r1 with
  | nil =>
    have := SeqAt.RcAt.lists (A := X.A) (e := fun _ => true) p1.isList p2.isList rfl hu (fun j h _ => by simp at h)
    exact this _ _ _ _ ⟨.bl _, H, I, rfl, q⟩
  | cons r rr =>
    have := SeqAt.RcAt.lists_lengths (A := X.A) p1.isList p2.isList (by simp) hu
    exact this _ _ _ _ ⟨.bl _, H, I, rfl, q⟩
theorem op_neEmp (hu : X.A.units < cLine) : OpR X (compareOp .NotEq) (rEmp X.K true) := by
  intro pins st sl H x y v u Q I rx ry hh
  obtain ⟨a, b, xs, rfl, rfl, h1, h2, q⟩ := hh
  cases rx
  cases ry
  obtain ⟨its, r1, p1, _⟩ := I.list h1
  obtain ⟨its2, r2, p2, _⟩ := I.list h2
  cases r2
  rw [Bool.true_xor] at q
  cases r1 with
  | nil =>
    have := SeqAt.RcNeAt.lists (A := X.A) (e := fun _ => true) p1.isList p2.isList rfl hu (fun j h _ => by simp at h)
    exact this _ _ _ _ ⟨.bl _, H, I, rfl, q⟩
  | cons r rr =>
    have := SeqAt.RcNeAt.lists_lengths (A := X.A) p1.isList p2.isList (by simp) hu
    exact this _ _ _ _ ⟨.bl _, H, I, rfl, q⟩
theorem RepL.isEmpty {G : Gh} {H : Hp} {vs : List V} {ds : List D} (h : RepL K G H vs ds) : vs.isEmpty = ds.isEmpty := by cases h <;> rfl
theorem op_eqAll (hu : X.A.units + 64 < cLine) : OpR X (compareOp .Eq) (fun x y H Q => rEq x y H Q ∨ rEmp X.K false x y H Q ∨ rEqD X.K x y H Q) := op_eq.or ((op_eqEmp (by omega)).or (op_eqD hu))
theorem op_neAll (hu : X.A.units + 64 < cLine) : OpR X (compareOp .NotEq) (fun x y H Q => rNe x y H Q ∨ rEmp X.K true x y H Q ∨ rNeD X.K x y H Q) := op_ne.or ((op_neEmp (by omega)).or (op_neD hu))
theorem snd_eq : SndO K B (gEq false) (fun x y H Q => rEq x y H Q ∨ rEmp K false x y H Q ∨ rEqD K x y H Q) := by
  intro G H σ ρ n τ v1 v2 r1 r2 R Q e hg k
  unfold gEq at hg
  split at hg
  · have h2 := e.topV
    have h1 := e.pop.topV
    cases h1
    cases h2
    refine .inl ⟨rfl, ?_⟩
    rw [dec_int, ← Bool.beq_eq_decide_eq] at *
    rw [Bool.false_xor] at hg
    exact k _ _ _ _ hg (e.pop.pop.pushV (.bl _))
  · have h2 := e.topV
    have h1 := e.pop.topV
    cases h1
    cases h2
    refine .inl ⟨rfl, ?_⟩
    rename_i i j
    have : decide (V.str i = V.str j) = decide (i = j) := by by_cases h : i = j <;> simp [h]
    rw [this]
    rw [Bool.false_xor] at hg
    exact k _ _ _ _ hg (e.pop.pop.pushV (.bl _))
  · obtain ⟨l, hl, hR⟩ := hg
    obtain ⟨a1, vs1, rfl, q1, l1⟩ := tmp_list e.top2 hl
    obtain ⟨a2, vs2, rfl, q2, l2⟩ := tmp_list e.top (l := []) rfl
    cases l2
    refine .inr (.inl ⟨a1, a2, vs1, rfl, rfl, SqL.of q1, SqL.of q2, ?_⟩)
    rw [l1.isEmpty]
    exact k _ _ _ _ hR (e.pop.pop.pushV (.bl _))
  · obtain ⟨p, q, hp, hq, sp, sq, hR⟩ := hg
    refine .inr (.inr ⟨p, q, e.top2.dp hp, e.top.dp hq, sp, sq, ?_⟩)
    rw [Bool.false_xor] at hR
    exact k _ _ _ _ hR (e.pop.pop.pushV (.bl _))
theorem snd_ne : SndO K B (gEq true) (fun x y H Q => rNe x y H Q ∨ rEmp K true x y H Q ∨ rNeD K x y H Q) := by
  intro G H σ ρ n τ v1 v2 r1 r2 R Q e hg k
  unfold gEq at hg
  split at hg
  · have h2 := e.topV
    have h1 := e.pop.topV
    cases h1
    cases h2
    refine .inl ⟨rfl, ?_⟩
    rename_i i j
    have : decide (V.int i = V.int j) = decide (i = j) := by by_cases h : i = j <;> simp [h]
    rw [this]
    rw [Bool.true_xor] at hg
    exact k _ _ _ _ hg (e.pop.pop.pushV (.bl _))
  · have h2 := e.topV
    have h1 := e.pop.topV
    cases h1
    cases h2
    refine .inl ⟨rfl, ?_⟩
    rename_i i j
    have : decide (V.str i = V.str j) = decide (i = j) := by by_cases h : i = j <;> simp [h]
    rw [this]
    rw [Bool.true_xor] at hg
    exact k _ _ _ _ hg (e.pop.pop.pushV (.bl _))
  · obtain ⟨l, hl, hR⟩ := hg
    obtain ⟨a1, vs1, rfl, q1, l1⟩ := tmp_list e.top2 hl
    obtain ⟨a2, vs2, rfl, q2, l2⟩ := tmp_list e.top (l := []) rfl
    cases l2
    refine .inr (.inl ⟨a1, a2, vs1, rfl, rfl, SqL.of q1, SqL.of q2, ?_⟩)
    rw [l1.isEmpty]
    exact k _ _ _ _ hR (e.pop.pop.pushV (.bl _))
  · obtain ⟨p, q, hp, hq, sp, sq, hR⟩ := hg
    refine .inr (.inr ⟨p, q, e.top2.dp hp, e.top.dp hq, sp, sq, ?_⟩)
    rw [Bool.true_xor] at hR
    exact k _ _ _ _ hR (e.pop.pop.pushV (.bl _))
theorem de_eq (hu : X.A.units + 64 < cLine) (ha : DE X B a wa) (hb : DE X B b wb) : DE X B (.Compare a [.Eq] [b] pos) (wOp (gEq false) wa wb) := de_cmp snd_eq (op_eqAll hu) ha hb (nomark _)
theorem de_ne (hu : X.A.units + 64 < cLine) (ha : DE X B a wa) (hb : DE X B b wb) : DE X B (.Compare a [.NotEq] [b] pos) (wOp (gEq true) wa wb) := de_cmp snd_ne (op_neAll hu) ha hb (nomark _)
theorem dt_eq (hu : X.A.units + 64 < cLine) (ha : DE X B a wa) (hb : DE X B b wb) : DT X B (.Compare a [.Eq] [b] pos) (wTst (wOp (gEq false) wa wb)) := dt_cmp snd_eq (op_eqAll hu) ha hb (nomark _)
theorem dt_ne (hu : X.A.units + 64 < cLine) (ha : DE X B a wa) (hb : DE X B b wb) : DT X B (.Compare a [.NotEq] [b] pos) (wTst (wOp (gEq true) wa wb)) := dt_cmp snd_ne (op_neAll hu) ha hb (nomark _)
/-! ### is None, is not None -/
def isNon : RV → Bool
  | .val .non => true
  | _ => false
def gIsN (neg : Bool) : G2 := fun r1 r2 R => r2 = .val .non ∧ R (.val (.bl (xor neg (isNon r1))))
theorem non_iff {G : Gh} {H : Hp} {j : Nat} {v : V} {r : RV} (h : TmpOk K G H j v r) : decide (v = .non) = isNon r := by
  cases r with
  | new l => obtain ⟨a, vs, rfl, _⟩ := h; rfl
  | newD t l => obtain ⟨a, vs, rfl, _⟩ := h; rfl
  | val d => cases h <;> rfl
theorem snd_isN : SndO K B (gIsN false) (fun x y H Q => y = .non ∧ Q (.bl (decide (x = .non))) H) := by
  rintro G H σ ρ n τ v1 v2 r1 r2 R Q e ⟨rfl, hR⟩ k
  have h2 := e.topV
  cases h2
  refine ⟨rfl, ?_⟩
  rw [non_iff e.top2]
  rw [Bool.false_xor] at hR
  exact k _ _ _ _ hR (e.pop.pop.pushV (.bl _))
theorem snd_notN : SndO K B (gIsN true) (fun x y H Q => y = .non ∧ Q (.bl (!decide (x = .non))) H) := by
  rintro G H σ ρ n τ v1 v2 r1 r2 R Q e ⟨rfl, hR⟩ k
  have h2 := e.topV
  cases h2
  refine ⟨rfl, ?_⟩
  rw [non_iff e.top2]
  rw [Bool.true_xor] at hR
  exact k _ _ _ _ hR (e.pop.pop.pushV (.bl _))
theorem de_isN (ha : DE X B a wa) (hb : DE X B b wb) : DE X B (.Compare a [.Is] [b] pos) (wOp (gIsN false) wa wb) := de_cmp snd_isN op_isN ha hb (nomark _)
theorem de_notN (ha : DE X B a wa) (hb : DE X B b wb) : DE X B (.Compare a [.IsNot] [b] pos) (wOp (gIsN true) wa wb) := de_cmp snd_notN op_notN ha hb (nomark _)
theorem dt_isN (ha : DE X B a wa) (hb : DE X B b wb) : DT X B (.Compare a [.Is] [b] pos) (wTst (wOp (gIsN false) wa wb)) := dt_cmp snd_isN op_isN ha hb (nomark _)
theorem dt_notN (ha : DE X B a wa) (hb : DE X B b wb) : DT X B (.Compare a [.IsNot] [b] pos) (wTst (wOp (gIsN true) wa wb)) := dt_cmp snd_notN op_notN ha hb (nomark _)
end
end Ly

namespace Ly
open PySem PySem.Spec PyProof.Rows L2
section
variable {X : Cx} {B : Bs} {a b c e : Expr} {es : List Expr} {pos : Pos} {wa wb wc : TD} {ws : TDA} {wt wu : TDT} {K : PySem.W.Frag}

/-! ### and, or, not, if .. else -/
def wTAnd (w u : TDT) : TDT := fun ρ n Q => w ρ n fun b ρ1 n1 => if b = true then u ρ1 n1 Q else Q false ρ1 n1
def wTOr (w u : TDT) : TDT := fun ρ n Q => w ρ n fun b ρ1 n1 => if b = true then Q true ρ1 n1 else u ρ1 n1 Q
def wTNot (w : TDT) : TDT := fun ρ n Q => w ρ n fun b ρ1 n1 => Q (!b) ρ1 n1
abbrev DW (X : Cx) (B : Bs) (e : Expr) (w : TDT) : Prop := PW X e (tDT X.K B w)
theorem dw_and1 (ha : DT X B a wt) : DW X B (.BoolOp .And [a] pos) wt := pw_and1 ha
theorem dw_or1 (ha : DT X B a wt) : DW X B (.BoolOp .Or [a] pos) wt := pw_or1 ha
theorem dw_and (ha : DT X B a wt) (hb : DW X B (.BoolOp .And (b :: es) pos) wu) : DW X B (.BoolOp .And (a :: b :: es) pos) (wTAnd wt wu) :=
  PW.imp (pw_and ha hb) fun σ H Q ⟨G, ρ, n, τ, Q', e, hw, k⟩ => ⟨G, ρ, n, τ, _, e, hw, fun b ρ' n' G' H' h1 e1 => by
    cases b with
    | true => exact iteT ⟨G', ρ', n', τ, Q', e1, by simpa using h1, k⟩
    | false => exact iteF (k _ _ _ _ _ (by simpa using h1) e1)⟩
theorem dw_or (ha : DT X B a wt) (hb : DW X B (.BoolOp .Or (b :: es) pos) wu) : DW X B (.BoolOp .Or (a :: b :: es) pos) (wTOr wt wu) :=
  PW.imp (pw_or ha hb) fun σ H Q ⟨G, ρ, n, τ, Q', e, hw, k⟩ => ⟨G, ρ, n, τ, _, e, hw, fun b ρ' n' G' H' h1 e1 => by
    cases b with
    | true => exact iteT (k _ _ _ _ _ (by simpa using h1) e1)
    | false => exact iteF ⟨G', ρ', n', τ, Q', e1, by simpa using h1, k⟩⟩
theorem dt_bool {op} (h : DW X B (.BoolOp op es pos) wt) : DT X B (.BoolOp op es pos) wt := PW.pt h
theorem dt_not (ha : DT X B a wt) : DT X B (.UnaryOp .Not a pos) (wTNot wt) :=
  PT.imp (pt_not ha) fun σ H Q ⟨G, ρ, n, τ, Q', e, hw, k⟩ => ⟨G, ρ, n, τ, _, e, hw, fun b ρ' n' G' H' h1 e1 => k _ _ _ _ _ h1 e1⟩
/-- .. as values: all but the last are truth values -/
def wAndV (w u : TD) : TD := fun ρ n Q => w ρ n fun r ρ1 n1 => ∃ b, r = .val (.bl b) ∧ if b = true then u ρ1 n1 Q else Q (.val (.bl false)) ρ1 n1
def wOrV (w u : TD) : TD := fun ρ n Q => w ρ n fun r ρ1 n1 => ∃ b, r = .val (.bl b) ∧ if b = true then Q (.val (.bl true)) ρ1 n1 else u ρ1 n1 Q
def wNotV (w : TD) : TD := fun ρ n Q => w ρ n fun r ρ1 n1 => ∃ b, r = .val (.bl b) ∧ Q (.val (.bl (!b))) ρ1 n1
theorem de_one {op} (ha : DE X B a wa) : DE X B (.BoolOp op [a] pos) wa := pe_one ha
theorem de_and (ha : DE X B a wa) (hb : DE X B (.BoolOp .And (b :: es) pos) wb) : DE X B (.BoolOp .And (a :: b :: es) pos) (wAndV wa wb) :=
  PE.imp (pe_and ha hb) fun σ H Q ⟨G, ρ, n, τ, Q', e, hw, k⟩ => ⟨G, ρ, n, τ, _, e, hw, fun r ρ' n' v G' H' ⟨b, hr, h1⟩ e1 => by
    subst hr
    have rv := e1.topV
    cases rv
    refine ⟨b, rfl, ?_⟩
    cases b with
    | true => exact iteT ⟨G', ρ', n', τ, Q', e1.pop, by simpa using h1, k⟩
    | false => exact iteF (k _ _ _ _ _ _ (by simpa using h1) e1)⟩
theorem de_or (ha : DE X B a wa) (hb : DE X B (.BoolOp .Or (b :: es) pos) wb) : DE X B (.BoolOp .Or (a :: b :: es) pos) (wOrV wa wb) :=
  PE.imp (pe_or ha hb) fun σ H Q ⟨G, ρ, n, τ, Q', e, hw, k⟩ => ⟨G, ρ, n, τ, _, e, hw, fun r ρ' n' v G' H' ⟨b, hr, h1⟩ e1 => by
    subst hr
    have rv := e1.topV
    cases rv
    refine ⟨b, rfl, ?_⟩
    cases b with
    | true => exact iteT (k _ _ _ _ _ _ (by simpa using h1) e1)
    | false => exact iteF ⟨G', ρ', n', τ, Q', e1.pop, by simpa using h1, k⟩⟩
theorem de_not (ha : DE X B a wa) : DE X B (.UnaryOp .Not a pos) (wNotV wa) :=
  PE.imp (pe_not ha) fun σ H Q ⟨G, ρ, n, τ, Q', e, hw, k⟩ => ⟨G, ρ, n, τ, _, e, hw, fun r ρ' n' v G' H' ⟨b, hr, h1⟩ e1 => by
    subst hr
    have rv := e1.topV
    cases rv
    exact ⟨b, rfl, k _ _ _ _ _ _ h1 (e1.pop.pushV (.bl _))⟩⟩
def wIf (w : TDT) (wa wb : TD) : TD := fun ρ n Q => w ρ n fun b ρ1 n1 => if b = true then wa ρ1 n1 Q else wb ρ1 n1 Q
theorem de_if (hc : DT X B c wt) (ha : DE X B a wa) (hb : DE X B b wb) : DE X B (.IfExp c a b pos) (wIf wt wa wb) :=
  PE.imp (pe_ifExp hc ha hb) fun σ H Q ⟨G, ρ, n, τ, Q', e, hw, k⟩ => ⟨G, ρ, n, τ, _, e, hw, fun b ρ' n' G' H' h1 e1 => by
    cases b with
    | true => exact iteT ⟨G', ρ', n', τ, Q', e1, by simpa using h1, k⟩
    | false => exact iteF ⟨G', ρ', n', τ, Q', e1, by simpa using h1, k⟩⟩
/-- -a -/
def wNeg (w : TD) : TD := fun ρ n Q => w ρ n fun r ρ1 n1 => ∃ i, r = .val (.int i) ∧ Q (.val (.int (-i))) ρ1 n1
theorem de_neg (ha : DE X B a wa) : DE X B (.UnaryOp .USub a pos) (wNeg wa) :=
  PE.imp (pe_un un_neg ha) fun σ H Q ⟨G, ρ, n, τ, Q', e, hw, k⟩ => ⟨G, ρ, n, τ, _, e, hw, fun r ρ' n' v G' H' ⟨i, hr, h1⟩ e1 => by
    subst hr
    have rv := e1.topV
    cases rv
    exact ⟨i, rfl, k _ _ _ _ _ _ h1 (e1.pop.pushV (.int _))⟩⟩

/-! ### items -/
def seqS : SV → Option (List D)
  | .val (.lst l) => some l
  | .val (.tup l) => some l
  | .own l => some l
  | _ => none
theorem slot_seq {G : Gh} {H : Hp} {o : Option (Option V)} {i : Nat} {s : SV} {l : List D} (h : SlotOk K G H o i s) (e : seqS s = some l) : ∃ a vs, o = some (some (.ref a)) ∧ (SqL K H a vs ∨ SqT K H a vs) ∧ RepL K G H vs l := by
  cases s with
  | un => cases e
  | ownD t m => cases e
  | err a d nms ds => cases e
  | own l' => cases e; obtain ⟨a, vs, e, g, q, rl⟩ := h; exact ⟨a, vs, e, .inl (SqL.of q), rl⟩
  | val d =>
    obtain ⟨v, ev, rv⟩ := h
    cases d with
    | lst l' => cases e; cases rv with | lst g q rl => exact ⟨_, _, ev, .inl (SqL.of q), rl⟩
    | tup l' => cases e; cases rv with | tup q rl => exact ⟨_, _, ev, .inr (SqT.of q), rl⟩
    | _ => cases e
theorem repL_at {G : Gh} {H : Hp} {vs : List V} {l : List D} {i : Int} {d : D} (rl : RepL K G H vs l) (h : atI l i = some d) : ∃ v, atI vs i = some v ∧ Rep K G H v d := by
  unfold atI at h ⊢
  rw [rl.length]
  cases q : ixN l.length i with
  | none => rw [q] at h; cases h
  | some j => rw [q] at h; exact rl.get h
/-- the item of what a name holds -/
def wIxN (i : Nat) (wb : TD) : TD := fun ρ n Q => (∃ s l, ρ[i]? = some s ∧ seqS s = some l) ∧ wb ρ n fun r ρ1 n1 => ∃ s l k d, ρ1[i]? = some s ∧ seqS s = some l ∧ r = .val (.int k) ∧ atI l k = some d ∧ Q (.val d) ρ1 n1
theorem de_ixN {i : Nat} (ha : PE X a (tVar i)) (hb : DE X B b wb) (hs : PlainIx b) : DE X B (.Subscript a b pos) (wIxN i wb) :=
  PE.imp (pe_ix ix_seq ha hb hs) fun σ H Q ⟨G, ρ, n, τ, Q', e, ⟨⟨s, l, hs, hl⟩, hw⟩, k⟩ => by
    obtain ⟨p, vs, ev, _, _⟩ := slot_seq (e.sl i s hs) hl
    refine ⟨_, ev, G, ρ, n, τ, _, e, hw, fun r ρ' n' v G' H' ⟨s', l', j, d, hs', hl', hr, hat, h1⟩ e1 => ?_⟩
    subst hr
    have rv := e1.topV
    cases rv
    obtain ⟨p', vs', ev', sq, rl⟩ := slot_seq (e1.sl i s' hs') hl'
    rw [ev] at ev'
    cases ev'
    obtain ⟨x, hx, rx⟩ := repL_at rl hat
    rcases sq with sq | sq
    · exact .inl ⟨_, _, _, _, rfl, rfl, sq, hx, k _ _ _ _ _ _ h1 (e1.pop.pushV rx)⟩
    · exact .inr (.inl ⟨_, _, _, _, rfl, rfl, sq, hx, k _ _ _ _ _ _ h1 (e1.pop.pushV rx)⟩)
/-- the item of what an expression gives -/
def wIx (wa wb : TD) : TD := fun ρ n Q => wa ρ n fun r1 ρ1 n1 => wb ρ1 n1 fun r2 ρ2 n2 => ∃ l k d, seqOf r1 = some l ∧ r2 = .val (.int k) ∧ atI l k = some d ∧ Q (.val d) ρ2 n2
theorem de_ix (ha : DE X B a wa) (hb : DE X B b wb) (hs : PlainIx b) : DE X B (.Subscript a b pos) (wIx wa wb) :=
  PE.imp (pe_ix ix_seq ha hb hs) fun σ H Q ⟨G, ρ, n, τ, Q', e, hw, k⟩ => ⟨G, ρ, n, τ, _, e, hw, fun r1 ρ1 n1 v1 G1 H1 h1 e1 => ⟨G1, ρ1, n1, _, _, e1, h1, fun r2 ρ2 n2 v2 G2 H2 ⟨l, j, d, hl, hr, hat, h2⟩ e2 => by
    subst hr
    have rv := e2.topV
    cases rv
    obtain ⟨p, vs, rfl, sq, rl⟩ := tmp_seq e2.top2 hl
    obtain ⟨x, hx, rx⟩ := repL_at rl hat
    rcases sq with sq | sq
    · exact .inl ⟨_, _, _, _, rfl, rfl, sq, hx, k _ _ _ _ _ _ h2 (e2.pop.pop.pushV rx)⟩
    · exact .inr (.inl ⟨_, _, _, _, rfl, rfl, sq, hx, k _ _ _ _ _ _ h2 (e2.pop.pop.pushV rx)⟩)⟩⟩

/-! ### calls of built-in functions and types -/
abbrev G1 := List RV → (RV → Prop) → Prop
def SndC (K : PySem.W.Frag) (B : Bs) (g : G1) (r : List V → Hp → VK → Prop) : Prop := ∀ (G : Gh) (H : Hp) (σ : L2.St) (ρ : List SV) (n : Nat) (τ : List (V × RV)) (vs : List V) (rs : List RV) (R : RV → Prop) (Q : VK),
  EnvOk K B.1 B.2 G H σ ρ n (τ ++ vs.zip rs) → vs.length = rs.length → g rs R → (∀ r v G' H', R r → EnvOk K B.1 B.2 G' H' σ ρ n (τ ++ [(v, r)]) → Q v H') → r vs H Q
def wCB (g : G1) (ws : TDA) : TD := fun ρ n Q => ws ρ n fun rs ρ1 n1 => g rs fun r => Q r ρ1 n1
theorem tCB_of {g : G1} {r : List V → Hp → VK → Prop} (s : SndC K B g r) {σ : L2.St} {H : Hp} {Q : VK} (h : tD K B (wCB g ws) σ H Q) : tCB r (tDA K B ws) σ H Q := by
  obtain ⟨G, ρ, n, τ, Q', e, hw, k⟩ := h
  exact ⟨G, ρ, n, τ, _, e, hw, fun rs ρ' n' vs G' H' h1 hl e1 => s _ _ _ _ _ _ _ _ _ _ e1 hl h1 fun r v G' H' hR e3 => k _ _ _ _ _ _ hR e3⟩
theorem de_callB {g : G1} {r : List V → Hp → VK → Prop} {id : String} {x : Str} {p : Pos} (s : SndC X.K B g r) (hc : CallR X (.builtin id) r) (hg : Gl X x) (hm : X.mg x = none) (hv : bootBuiltins x = some (.builtin id)) (ha : DA X B (e :: es) ws)
    (hn : x ≠ "__name__" := by decide) (hdb : (x == ("__debug__" : Str)) = false := by decide) (he : starEach (e :: es) X.env = (false, eval e X.env) :: starEach es X.env := by rfl) (hpl : (backTo pos (starEach es X.env)).any (·.1) = false := by rfl) :
    DE X B (.Call (.Name x p) (e :: es) [] pos) (wCB g ws) := PE.imp (pe_callB hc hg hm hv ha hn hdb he hpl) fun _ _ _ h => tCB_of s h
theorem de_callTy {g : G1} {r : List V → Hp → VK → Prop} {T : String} {x : Str} {p : Pos} (s : SndC X.K B g r) (hc : CallR X (.type T) r) (hg : Gl X x) (hm : X.mg x = none) (hv : bootBuiltins x = some (.type T)) (ha : DA X B (e :: es) ws)
    (hn : x ≠ "__name__" := by decide) (hdb : (x == ("__debug__" : Str)) = false := by decide) (he : starEach (e :: es) X.env = (false, eval e X.env) :: starEach es X.env := by rfl) (hpl : (backTo pos (starEach es X.env)).any (·.1) = false := by rfl) :
    DE X B (.Call (.Name x p) (e :: es) [] pos) (wCB g ws) := PE.imp (pe_callTy hc hg hm hv ha hn hdb he hpl) fun _ _ _ h => tCB_of s h
theorem len1 {α β : Type} {vs : List α} {r : β} (h : vs.length = [r].length) : ∃ v, vs = [v] := by
  cases vs with
  | nil => cases h
  | cons v vs => cases vs with
    | nil => exact ⟨v, rfl⟩
    | cons _ _ => simp at h
theorem len2 {α β : Type} {vs : List α} {r r' : β} (h : vs.length = [r, r'].length) : ∃ v v', vs = [v, v'] := by
  cases vs with
  | nil => cases h
  | cons v vs => cases vs with
    | nil => simp at h
    | cons v' vs => cases vs with
      | nil => exact ⟨v, v', rfl⟩
      | cons _ _ => simp at h
theorem zip2 {K : PySem.W.Frag} {G0 G : Gh} {H0 H : Hp} {σ : L2.St} {ρ : List SV} {n : Nat} {τ : List (V × RV)} {v v' : V} {r r' : RV} (e : EnvOk K G0 H0 G H σ ρ n (τ ++ [v, v'].zip [r, r'])) : EnvOk K G0 H0 G H σ ρ n (τ ++ [(v, r)] ++ [(v', r')]) := by
  rw [List.append_assoc]
  exact e
/-- len -/
def gLen : G1 := fun rs R => ∃ r, rs = [r] ∧ ∃ l, seqOf r = some l ∧ R (.val (.int l.length))
theorem snd_len : SndC K B gLen (fun xs H Q => ∃ x n, xs = [x] ∧ LenV K x H n ∧ Q (.int n) H) := by
  rintro G H σ ρ n τ vs rs R Q e hl ⟨r, rfl, l, hr, hR⟩ k
  obtain ⟨v, rfl⟩ := len1 hl
  have e : EnvOk K B.1 B.2 G H σ ρ n (τ ++ [(v, r)]) := e
  obtain ⟨a, ws, rfl, sq, rl⟩ := tmp_seq e.top hr
  refine ⟨_, l.length, rfl, ?_, k _ _ _ _ hR (e.pop.pushV (.int _))⟩
  rcases sq with sq | sq
  · exact .inl ⟨ws, sq, rl.length.symm⟩
  · exact .inr ⟨ws, sq, rl.length.symm⟩
/-- len of what a name holds -/
def wLenN (i : Nat) : TD := fun ρ n Q => ∃ s l, ρ[i]? = some s ∧ seqS s = some l ∧ Q (.val (.int l.length)) ρ n
theorem de_lenN {i : Nat} {y : Str} {p p' : Pos} (ha : PE X (.Name y p') (tVar i)) (hg : Gl X "len") (hm : X.mg "len" = none) : DE X B (.Call (.Name "len" p) [.Name y p'] [] pos) (wLenN i) :=
  PE.imp (pe_callB call_len hg hm PySem.boot_len (pa_cons ha pa_nil)) fun σ H Q ⟨G, ρ, n, τ, Q', e, ⟨s, l, hs, hl, h1⟩, k⟩ => by
    obtain ⟨a, vs, ev, sq, rl⟩ := slot_seq (e.sl i s hs) hl
    refine ⟨_, ev, _, l.length, rfl, ?_, k _ _ _ _ _ _ h1 (e.pushV (.int _))⟩
    rcases sq with sq | sq
    · exact .inl ⟨vs, sq, rl.length.symm⟩
    · exact .inr ⟨vs, sq, rl.length.symm⟩
/-- abs, min, max, int -/
def gAbs : G1 := fun rs R => ∃ i, rs = [.val (.int i)] ∧ R (.val (.int (if i < 0 then -i else i)))
theorem snd_abs : SndC K B gAbs (fun xs H Q => ∃ i, xs = [.int i] ∧ Q (.int (if i < 0 then -i else i)) H) := by
  rintro G H σ ρ n τ vs rs R Q e hl ⟨i, rfl, hR⟩ k
  obtain ⟨v, rfl⟩ := len1 hl
  have e : EnvOk K B.1 B.2 G H σ ρ n (τ ++ [(v, _)]) := e
  have rv := e.topV
  cases rv
  exact ⟨i, rfl, k _ _ _ _ hR (e.pop.pushV (.int _))⟩
def gMM (f : Int → Int → Int) : G1 := fun rs R => ∃ i j, rs = [.val (.int i), .val (.int j)] ∧ R (.val (.int (f i j)))
theorem snd_mm {f : Int → Int → Int} : SndC K B (gMM f) (fun xs H Q => ∃ i j, xs = [.int i, .int j] ∧ Q (.int (f i j)) H) := by
  rintro G H σ ρ n τ vs rs R Q e hl ⟨i, j, rfl, hR⟩ k
  obtain ⟨v, v', rfl⟩ := len2 hl
  have e := zip2 e
  have r2 := e.topV
  have r1 := e.pop.topV
  cases r1
  cases r2
  exact ⟨i, j, rfl, k _ _ _ _ hR (e.pop.pop.pushV (.int _))⟩
abbrev gMin : G1 := gMM fun i j => if j < i then j else i
abbrev gMax : G1 := gMM fun i j => if j > i then j else i
def gInt : G1 := fun rs R => ∃ r, rs = [r] ∧ ((∃ i, r = .val (.int i) ∧ R (.val (.int i))) ∨ ∃ b, r = .val (.bl b) ∧ R (.val (.int (if b then 1 else 0))))
theorem snd_int : SndC K B gInt (fun xs H Q => (∃ i, xs = [.int i] ∧ Q (.int i) H) ∨ ∃ k, xs = [.bl k] ∧ Q (.int (if k then 1 else 0)) H) := by
  rintro G H σ ρ n τ vs rs R Q e hl ⟨r, rfl, h⟩ k
  obtain ⟨v, rfl⟩ := len1 hl
  have e : EnvOk K B.1 B.2 G H σ ρ n (τ ++ [(v, r)]) := e
  rcases h with ⟨i, rfl, hR⟩ | ⟨b, rfl, hR⟩
  · have rv := e.topV
    cases rv
    exact .inl ⟨i, rfl, k _ _ _ _ hR e⟩
  · have rv := e.topV
    cases rv
    exact .inr ⟨b, rfl, k _ _ _ _ hR (e.pop.pushV (.int _))⟩
/-- tuple(list), tuple(tuple), list(list), list(tuple) -/
def gTuple : G1 := fun rs R => ∃ r l, rs = [r] ∧ seqOf r = some l ∧ R (.val (.tup l))
theorem snd_tuple : SndC K B gTuple (fun xs H Q => ∃ p ys, xs = [.ref p] ∧ ((SqL K H p ys ∧ ∀ l, H l = none → Q (.ref l) (upd H l (.tup ys))) ∨ (SqT K H p ys ∧ Q (.ref p) H))) := by
  rintro G H σ ρ n τ vs rs R Q e hl ⟨r, l, rfl, hr, hR⟩ k
  obtain ⟨v, rfl⟩ := len1 hl
  have e : EnvOk K B.1 B.2 G H σ ρ n (τ ++ [(v, r)]) := e
  obtain ⟨a, ws, rfl, sq, rl⟩ := tmp_seqT e.top hr
  rcases sq with sq | sq
  · exact ⟨a, ws, rfl, .inl ⟨sq, fun p hp => k _ _ _ _ hR (e.pop.pushTup hp rl)⟩⟩
  · exact ⟨a, ws, rfl, .inr ⟨SqT.of sq, k _ _ _ _ hR (e.pop.pushV (.tup sq rl))⟩⟩
def gList : G1 := fun rs R => ∃ r l, rs = [r] ∧ seqOf r = some l ∧ R (.new l)
theorem snd_list : SndC K B gList (fun xs H Q => ∃ p ys, xs = [.ref p] ∧ (SqL K H p ys ∨ SqT K H p ys) ∧ ∀ l, H l = none → Q (.ref l) (upd H l (.lst ys))) := by
  rintro G H σ ρ n τ vs rs R Q e hl ⟨r, l, rfl, hr, hR⟩ k
  obtain ⟨v, rfl⟩ := len1 hl
  have e : EnvOk K B.1 B.2 G H σ ρ n (τ ++ [(v, r)]) := e
  obtain ⟨a, ws, rfl, sq, rl⟩ := tmp_seq e.top hr
  exact ⟨a, ws, rfl, sq, fun p hp => k _ _ _ _ hR (e.pop.pushNew hp rl)⟩
/-- all(list of truth values) -/
def gAll : G1 := fun rs R => ∃ (r : RV) (l : List D) (bs : List Bool), rs = [r] ∧ listOf r = some l ∧ l = bs.map D.bl ∧ R (.val (.bl (bs.all id)))
theorem repL_bl {G : Gh} {H : Hp} : ∀ {bs : List Bool} {vs : List V}, RepL K G H vs (bs.map D.bl) → vs = bs.map V.bl
  | [], _, .nil => rfl
  | b :: bs, _, .cons r t => by
    cases r
    rw [repL_bl t]
    rfl
theorem snd_all : SndC K B gAll (rAll K) := by
  rintro G H σ ρ n τ vs rs R Q e hl ⟨r, l, bs, rfl, hr, rfl, hR⟩ k
  obtain ⟨v, rfl⟩ := len1 hl
  have e : EnvOk K B.1 B.2 G H σ ρ n (τ ++ [(v, r)]) := e
  obtain ⟨a, ws, rfl, sq, rl⟩ := tmp_list e.top hr
  have := repL_bl rl
  subst this
  exact ⟨a, bs, rfl, SqL.of sq, k _ _ _ _ hR (e.pop.pushV (.bl _))⟩
/-- isinstance(x, a built-in type) -/
def tyName : D → Option String
  | .non => some "NoneType"
  | .bl _ => some "bool"
  | .int _ => some "int"
  | .str _ => some "str"
  | .tup _ => some "tuple"
  | .lst _ => some "list"
  | .dct => some "dict"
  | .dc0 => some "dict"
  | _ => none
def gIsi : G1 := fun rs R => ∃ r m T b, rs = [r, .val (.ty m)] ∧ tyName (dOf r) = some T ∧ kitB T m = some b ∧ R (.val (.bl b))
theorem ty_of {G : Gh} {H : Hp} {v : V} {d : D} {T : String} (h : Rep K G H v d) (e : tyName d = some T) : TyX K H v (.type T) := by
  cases h with
  | non => cases e; exact .base .non
  | bl b => cases e; exact .base (.bl b)
  | int i => cases e; exact .base (.int i)
  | str x => cases e; exact .base (.str x)
  | ty x => cases e
  | tup q _ =>
    cases e
    exact .base (.tup q)
  | lst g q _ => cases e; exact .base (.lst q)
  | dct g q y =>
    cases e
    rcases y with ⟨kvs, rfl⟩ | ⟨kvs, rfl⟩
    · exact .base (.dK q)
    · exact .base (.dT q)
  | dc0 g q => cases e; exact .base (.dK q)
  | bag g => cases e
  | scr g => cases e
theorem tmp_ty {G : Gh} {H : Hp} {j : Nat} {v : V} {r : RV} {T : String} (h : TmpOk K G H j v r) (e : tyName (dOf r) = some T) : TyX K H v (.type T) := by
  cases r with
  | val d => exact ty_of h e
  | new l => obtain ⟨a, vs, rfl, g, q, rl⟩ := h; cases e; exact .base (.lst q)
  | newD t l =>
    obtain ⟨a, u, rfl, g, q, rl⟩ := h
    cases e
    rcases rl.isD with ⟨kvs, rfl⟩ | ⟨kvs, rfl⟩
    · exact .base (.dK q)
    · exact .base (.dT q)
theorem snd_isi : SndC K B gIsi (rIsi K) := by
  rintro G H σ ρ n τ vs rs R Q e hl ⟨r, m, T, b, rfl, ht, hb, hR⟩ k
  obtain ⟨v, v', rfl⟩ := len2 hl
  have e := zip2 e
  have r2 := e.topV
  cases r2
  exact ⟨v, .ty m, .type T, .type m, b, rfl, .ty m, tmp_ty e.top2 ht, kit_ty hb, k _ _ _ _ hR (e.pop.pop.pushV (.bl _))⟩
theorem de_ty {x : Str} {T : String} {pos : Pos} (hg : Gl X x) (hm : X.mg x = none) (hv : bootBuiltins x = some (.type T)) (hn : x ≠ "__name__" := by decide) (hd : (x == ("__debug__" : Str)) = false := by decide) : DE X B (.Name x pos) (wC (.ty T)) :=
  de_of (v := .ty T) (pe_bltn hg hm hv rfl hn hd) fun _ _ => .ty T
end
end Ly

namespace Ly
open PySem PySem.Spec PyProof.Rows L2

/-! ### targets -/
abbrev TDG := RV → List SV → Nat → (List SV → Nat → Prop) → Prop
abbrev TDGs := List RV → List SV → Nat → (List SV → Nat → Prop) → Prop
/-- what becomes of the slots: only those in ix are touched -/
def Kp (ix : List Nat) (σ σ' : L2.St) : Prop := ∀ vs : List Nat, (∀ i ∈ ix, i ∈ vs) → wipe σ' vs = wipe σ vs
def tDG (K : PySem.W.Frag) (B : Bs) (ix : List Nat) (w : TDG) : TG := fun v σ H Q => ∃ G ρ n τ j r Q', EnvOk K B.1 B.2 G H σ ρ n τ ∧ τ[j]? = some (v, r) ∧ w r ρ n Q' ∧
  ∀ σ' ρ' n' G' H', Q' ρ' n' → Kp ix σ σ' → EnvOk K B.1 B.2 G' H' σ' ρ' n' (τ.set j (.non, .val .non)) → Q σ' H'
def tDGs (K : PySem.W.Frag) (B : Bs) (ix : List Nat) (w : TDGs) : TGs := fun vs σ H Q => ∃ G ρ n τ j rs Q', EnvOk K B.1 B.2 G H σ ρ n (τ ++ j ++ vs.zip rs) ∧ vs.length = rs.length ∧ w rs ρ n Q' ∧
  ∀ σ' ρ' n' G' H', Q' ρ' n' → Kp ix σ σ' → EnvOk K B.1 B.2 G' H' σ' ρ' n' τ → Q σ' H'
abbrev DG (X : Cx) (B : Bs) (ix : List Nat) (e : Expr) (w : TDG) : Prop := PG X e (tDG X.K B ix w)
abbrev DGs (X : Cx) (B : Bs) (ix : List Nat) (es : List Expr) (w : TDGs) : Prop := PGs X es (tDGs X.K B ix w)
theorem wipe_get {σ : L2.St} {i : Nat} : ∀ {vs : List Nat}, (wipe σ vs)[i]? = if i ∈ vs then (if i < σ.length then some none else none) else σ[i]?
  | [] => by simp [wipe]
  | v :: vs => by
    unfold wipe
    by_cases h : v = i
    · subst h
      by_cases hl : v < σ.length
      · rw [List.getElem?_set_self (by rw [wipe_length]; exact hl)]; simp [hl]
      · rw [List.getElem?_eq_none (by rw [List.length_set, wipe_length]; omega)]; simp [hl]
    · rw [List.getElem?_set_ne h, wipe_get]
      by_cases hm : i ∈ vs
      · simp [hm]
      · simp [hm, Ne.symm h]
theorem Kp.set {σ : L2.St} {i : Nat} {x : Option V} : Kp [i] σ (σ.set i x) := fun vs h => by
  have hi : i ∈ vs := h i (by simp)
  apply List.ext_getElem?
  intro j
  rw [wipe_get, wipe_get, List.length_set]
  by_cases hj : j ∈ vs
  · simp [hj]
  · rw [if_neg hj, if_neg hj, List.getElem?_set_ne]
    exact fun e => hj (e ▸ hi)
theorem Kp.refl {ix : List Nat} {σ : L2.St} : Kp ix σ σ := fun _ _ => rfl
theorem Kp.trans {ix ix' : List Nat} {σ σ1 σ2 : L2.St} (a : Kp ix σ σ1) (b : Kp ix' σ1 σ2) : Kp (ix ++ ix') σ σ2 := fun vs h =>
  (b vs fun i hi => h i (List.mem_append_right _ hi)).trans (a vs fun i hi => h i (List.mem_append_left _ hi))
section
variable {X : Cx} {B : Bs} {a b c e : Expr} {es : List Expr} {pos : Pos} {wa wb wc we : TD} {ws : TDA} {wt wu : TDT} {wg : TDG} {wgs : TDGs} {K : PySem.W.Frag} {ix ix' : List Nat}
theorem PG.imp {X : Cx} {e : Expr} {t t' : TG} (h : PG X e t) (i : ∀ v σ H Q, t' v σ H Q → t v σ H Q) : PG X e t' := ⟨fun pins s σ H x v Q I r q => h.run pins s σ H x v Q I r (i _ _ _ _ q)⟩
theorem PGs.imp {X : Cx} {es : List Expr} {t t' : TGs} (h : PGs X es t) (i : ∀ v σ H Q, t' v σ H Q → t v σ H Q) : PGs X es t' := ⟨fun pins s σ H x v Q I r q => h.run pins s σ H x v Q I r (i _ _ _ _ q)⟩
def wgN (i : Nat) : TDG := fun r ρ n Q => Q (ρ.set i (svOf r)) n
theorem dg_name {i : Nat} (h : PG X a (gName i)) : DG X B [i] a (wgN i) := PG.imp h fun v σ H Q ⟨G, ρ, n, τ, j, r, Q', e, hj, hw, k⟩ => by
  obtain ⟨G', e'⟩ := e.assignAt (i := i) hj
  exact k _ _ _ _ _ hw Kp.set e'
def wgNil : TDGs := fun rs ρ n Q => rs = [] ∧ Q ρ n
def wgCons (wg : TDG) (wgs : TDGs) : TDGs := fun rs ρ n Q => ∃ r rs', rs = r :: rs' ∧ wg r ρ n fun ρ1 n1 => wgs rs' ρ1 n1 Q
theorem dgs_nil : DGs X B [] [] wgNil := PGs.imp pgs_nil fun vs σ H Q ⟨G, ρ, n, τ, j, rs, Q', e, hl, ⟨hr, hw⟩, k⟩ => by
  subst hr
  exact ⟨List.eq_nil_of_length_eq_zero hl, k _ _ _ _ _ hw Kp.refl e.pop.pop⟩
theorem dgs_cons (h1 : DG X B ix a wg) (h2 : DGs X B ix' es wgs) (h : PGs X (a :: es) (gCons (tDG X.K B ix wg) (tDGs X.K B ix' wgs))) : DGs X B (ix ++ ix') (a :: es) (wgCons wg wgs) :=
  PGs.imp h fun vs σ H Q ⟨G, ρ, n, τ, j, rs, Q', e, hl, ⟨r, rs', hr, hw⟩, k⟩ => by
    subst hr
    cases vs with
    | nil => simp at hl
    | cons v vs =>
      rw [List.zip_cons_cons] at e
      refine ⟨v, vs, rfl, G, ρ, n, _, (τ ++ j).length, r, _, e, by simp, hw, fun σ1 ρ1 n1 G1 H1 h1 kp e1 => ⟨G1, ρ1, n1, τ, j ++ [(.non, .val .non)], rs', Q', ?_, by simpa using hl, h1, fun σ2 ρ2 n2 G2 H2 h2 kp2 e2 => k _ _ _ _ _ h2 (kp.trans kp2) e2⟩⟩
      rw [List.set_append_right _ _ (Nat.le_refl _), Nat.sub_self, List.set_cons_zero] at e1
      rw [← List.append_assoc, List.append_assoc _ [_]]
      exact e1
/-- a, b, .. = a tuple -/
def wgTup (k : Nat) (wgs : TDGs) : TDG := fun r ρ n Q => ∃ ds, r = .val (.tup ds) ∧ ds.length = k ∧ wgs (ds.map .val) ρ n Q
theorem EnvOk.pushAll {K : PySem.W.Frag} {G0 G : Gh} {H0 H : Hp} {σ : L2.St} {ρ : List SV} {n : Nat} : ∀ {vs : List V} {ds : List D} {τ : List (V × RV)}, EnvOk K G0 H0 G H σ ρ n τ → RepL K G H vs ds → EnvOk K G0 H0 G H σ ρ n (τ ++ vs.zip (ds.map .val))
  | _, _, τ, e, .nil => by simpa using e
  | v :: vs, d :: ds, τ, e, .cons r t => by
    rw [List.map_cons, List.zip_cons_cons, List.append_cons]
    exact EnvOk.pushAll (e.pushV r) t
theorem dg_tup {k : Nat} {x1 : Nat} {pos : Pos} (h : PG X (.Tuple es x1 pos) (gTup X.K k (tDGs X.K B ix wgs))) : DG X B ix (.Tuple es x1 pos) (wgTup k wgs) :=
  PG.imp h fun v σ H Q ⟨G, ρ, n, τ, j, r, Q', e, hj, ⟨ds, hr, hk, hw⟩, k⟩ => by
    subst hr
    have rv : Rep X.K G H v (.tup ds) := e.tm j v (.val (.tup ds)) hj
    cases rv with
    | tup sq rl =>
      have hjl : j < τ.length := (List.getElem?_eq_some_iff.mp hj).1
      have e1 : EnvOk X.K B.1 B.2 G H σ ρ n (τ.set j (.non, .val .non)) := ⟨e.gr, e.ns, e.nt, e.bg, e.fh, e.ln, e.sl, fun m v' r' h => by
        by_cases hm : m = j
        · subst hm; rw [List.getElem?_set_self hjl] at h; cases h; exact Rep.non
        · rw [List.getElem?_set_ne (Ne.symm hm)] at h; exact e.tm m v' r' h⟩
      exact ⟨_, _, rfl, SqT.of sq, by rw [rl.length]; exact hk, G, ρ, n, _, [], ds.map .val, Q', by rw [List.append_nil]; exact e1.pushAll rl, by rw [rl.length, List.length_map], hw, k⟩

/-! ### what is walked -/
def ItOk (K : PySem.W.Frag) (B : Bs) (J : It) (ds : List D) (τ : List (V × RV)) : Prop := ∀ (G : Gh) (H : Hp) (σ : L2.St) (ρ : List SV) (n i : Nat), EnvOk K B.1 B.2 G H σ ρ n τ →
  (i = ds.length → J.stop i H) ∧ ∀ d, ds[i]? = some d → J.go i H ∧ ∀ x H', J.yld i H x H' → ∃ G', EnvOk K B.1 B.2 G' H' σ ρ n (τ ++ [(x, .val d)])
abbrev TDI := List SV → Nat → (List D → List SV → Nat → Prop) → Prop
def tDI (K : PySem.W.Frag) (B : Bs) (w : TDI) : TI := fun σ H R => ∃ G ρ n τ Q', EnvOk K B.1 B.2 G H σ ρ n τ ∧ w ρ n Q' ∧
  ∀ ds ρ' n' τ' J G' H', Q' ds ρ' n' → (∀ τ'', ItOk K B J ds (τ ++ τ' ++ τ'')) → EnvOk K B.1 B.2 G' H' σ ρ' n' (τ ++ τ') → R J H'
abbrev DI (X : Cx) (B : Bs) (tg e : Expr) (w : TDI) : Prop := PI X tg e (tDI X.K B w)
theorem PI.imp {X : Cx} {tg e : Expr} {t t' : TI} (h : PI X tg e t) (i : ∀ σ H R, t' σ H R → t σ H R) : PI X tg e t' := ⟨fun pins s σ H R I q => h.run pins s σ H R I (i _ _ _ q)⟩
/-- a list or a tuple -/
def iSeq (K : PySem.W.Frag) (tl : TE) : TI := fun σ H R => tl σ H fun x H1 => ∃ p, x = .ref p ∧ (((∃ xs, SqL K H1 p xs) ∧ R (Itl K p) H1) ∨ ((∃ xs, SqT K H1 p xs) ∧ R (Itt K p) H1))
theorem pi_seq {tg l : Expr} {tl : TE} (hl : PE X l tl) : PI X tg l (iSeq X.K tl) := by
  refine ⟨fun pins st sl Hp0 R I0 hh => ?_⟩
  refine thn (hl.run pins st sl Hp0 _ I0 hh) fun vv s1 ⟨x, H1, I1, r1, p, ex, q⟩ => ?_
  subst ex
  cases r1
  rcases q with ⟨⟨xs, hq⟩, q⟩ | ⟨⟨xs, hq⟩, q⟩
  · obtain ⟨its, rv, pl, hz⟩ := I1.list hq
    refine wpAny_pyIter_list pl.isList ⟨s1.heap.objs.size, [s1.heap.objs.size], _, _, H1, rfl, I1.kept (t' := s1.toks) fun b o y => Heap.get?_push_of_some _ y, turn_list p _, ⟨_, Heap.get?_push_size _ rfl, rfl, rfl⟩, fun b hb => ?_, q⟩
    obtain rfl : b = s1.heap.objs.size := by simpa using hb
    exact I1.fpOk (Nat.le_refl _) (I1.hok.fresh (Nat.le_refl _))
  · obtain ⟨its, rv, pl, hz⟩ := I1.tuple hq
    refine wpAny_pyIter_tuple (show s1.heap.IsTuple p its.toArray from pl) ⟨s1.heap.objs.size, [s1.heap.objs.size], _, _, H1, rfl, I1.kept (t' := s1.toks) fun b o y => Heap.get?_push_of_some _ y, turn_tuple p _, ⟨_, Heap.get?_push_size _ rfl, rfl, rfl⟩, fun b hb => ?_, q⟩
    obtain rfl : b = s1.heap.objs.size := by simpa using hb
    exact I1.fpOk (Nat.le_refl _) (I1.hok.fresh (Nat.le_refl _))
def wiSeq (w : TD) : TDI := fun ρ n Q => w ρ n fun r ρ1 n1 => ∃ l, seqOf r = some l ∧ Q l ρ1 n1
theorem EnvOk.tmAt {K : PySem.W.Frag} {G0 G : Gh} {H0 H : Hp} {σ : L2.St} {ρ : List SV} {n : Nat} {τ τ' : List (V × RV)} {v : V} {d : D} (e : EnvOk K G0 H0 G H σ ρ n (τ ++ [(v, .val d)] ++ τ')) : Rep K G H v d := e.pop.topV
theorem itOk_list {p : Addr} {l : List D} {τ τ'' : List (V × RV)} : ItOk K B (Itl K p) l (τ ++ [(.ref p, .val (.lst l))] ++ τ'') := fun G H σ ρ n i e => by
  have rv := e.tmAt
  cases rv with
  | lst g q rl =>
    refine ⟨fun hi => ⟨_, SqL.of q, by rw [rl.length]; omega⟩, fun d hd => ?_⟩
    obtain ⟨v, hv, rep⟩ := rl.get hd
    refine ⟨⟨_, v, SqL.of q, hv⟩, fun x H' ⟨eH, hx⟩ => ?_⟩
    subst eH
    have := hx _ (SqL.of q)
    rw [hv] at this
    cases this
    exact ⟨G, e.pushV rep⟩
theorem itOk_tup {p : Addr} {l : List D} {τ τ'' : List (V × RV)} : ItOk K B (Itt K p) l (τ ++ [(.ref p, .val (.tup l))] ++ τ'') := fun G H σ ρ n i e => by
  have rv := e.tmAt
  cases rv with
  | tup q rl =>
    replace q := SqT.of (K := K) q
    refine ⟨fun hi => ⟨_, q, by rw [rl.length]; omega⟩, fun d hd => ?_⟩
    obtain ⟨v, hv, rep⟩ := rl.get hd
    refine ⟨⟨_, v, q, hv⟩, fun x H' ⟨eH, hx⟩ => ?_⟩
    subst eH
    have := hx _ q
    rw [hv] at this
    cases this
    exact ⟨G, e.pushV rep⟩
theorem di_seq {tg : Expr} (ha : DE X B a wa) : DI X B tg a (wiSeq wa) :=
  PI.imp (pi_seq ha) fun σ H R ⟨G, ρ, n, τ, Q', e, hw, k⟩ => ⟨G, ρ, n, τ, _, e, hw, fun r ρ1 n1 v G1 H1 ⟨l, hl, h1⟩ e1 => by
    obtain ⟨G2, x2, e2⟩ := e1.freeze
    rw [frz_val] at e2
    have rv := e2.topV
    cases r with
    | newD t m => cases hl
    | new l' =>
      cases hl
      cases rv with
      | lst g q rl => exact ⟨_, rfl, .inl ⟨⟨_, SqL.of q⟩, k l ρ1 n1 _ _ _ _ h1 (fun _ => itOk_list) e2⟩⟩
    | val d =>
      cases d with
      | lst l' => cases hl; cases rv with | lst g q rl => exact ⟨_, rfl, .inl ⟨⟨_, SqL.of q⟩, k l ρ1 n1 _ _ _ _ h1 (fun _ => itOk_list) e2⟩⟩
      | tup l' => cases hl; cases rv with | tup q rl => exact ⟨_, rfl, .inr ⟨⟨_, SqT.of q⟩, k l ρ1 n1 _ _ _ _ h1 (fun _ => itOk_tup) e2⟩⟩
      | _ => cases hl⟩
/-- range(n), range(a, b) -/
def rgD (lo : Int) (n : Nat) : List D := (List.range n).map fun i => D.int (lo + (i : Nat))
theorem itOk_rng {lo : Int} {m : Nat} {τ : List (V × RV)} : ItOk K B (Itr lo m) (rgD lo m) τ := fun G H σ ρ n i e => by
  unfold rgD
  refine ⟨fun hi => by rw [List.length_map, List.length_range] at hi; exact Nat.le_of_eq hi.symm, fun d hd => ?_⟩
  rw [List.getElem?_map] at hd
  have hi : i < m := by
    by_cases h : i < m
    · exact h
    · rw [List.getElem?_eq_none (by rw [List.length_range]; omega)] at hd; cases hd
  rw [List.getElem?_range hi] at hd
  cases hd
  refine ⟨hi, fun x H' ⟨eH, hx⟩ => ?_⟩
  subst eH hx
  exact ⟨G, e.pushV (.int _)⟩
def wiR1 (w : TDA) : TDI := fun ρ n Q => w ρ n fun rs ρ1 n1 => ∃ j, rs = [.val (.int j)] ∧ (-(2 ^ 62) ≤ j ∧ j < 2 ^ 62) ∧ Q (rgD 0 j.toNat) ρ1 n1
theorem di_r1 {tg : Expr} {p pos : Pos} (hg : Gl X "range") (hm : X.mg "range" = none) (ha : DA X B [a] ws) (hs : starEach [a] X.env = [(false, eval a X.env)] := by rfl) : DI X B tg (.Call (.Name "range" p) [a] [] pos) (wiR1 ws) :=
  PI.imp (pi_range1 hg hm ha hs) fun σ H R ⟨G, ρ, n, τ, Q', e, hw, k⟩ => ⟨G, ρ, n, τ, _, e, hw, fun rs ρ1 n1 vs G1 H1 ⟨j, hr, hb, h1⟩ hl e1 => by
    subst hr
    obtain ⟨v, rfl⟩ := len1 hl
    have e1 : EnvOk X.K B.1 B.2 G1 H1 σ ρ1 n1 (τ ++ [(v, _)]) := e1
    have rv := e1.topV
    cases rv
    exact ⟨j, rfl, hb.1, hb.2, k _ ρ1 n1 [] _ _ _ h1 (fun _ => itOk_rng) (by rw [List.append_nil]; exact e1.pop)⟩⟩
def wiR2 (w : TDA) : TDI := fun ρ n Q => w ρ n fun rs ρ1 n1 => ∃ i j, rs = [.val (.int i), .val (.int j)] ∧ (-(2 ^ 62) ≤ i ∧ i < 2 ^ 62 ∧ -(2 ^ 62) ≤ j ∧ j < 2 ^ 62) ∧ Q (rgD i (j - i).toNat) ρ1 n1
theorem di_r2 {tg : Expr} {p pos : Pos} (hg : Gl X "range") (hm : X.mg "range" = none) (ha : DA X B [a, b] ws) (hs : starEach [a, b] X.env = [(false, eval a X.env), (false, eval b X.env)] := by rfl) (hs2 : starEach [b] X.env = [(false, eval b X.env)] := by rfl) : DI X B tg (.Call (.Name "range" p) [a, b] [] pos) (wiR2 ws) :=
  PI.imp (pi_range2 hg hm ha hs hs2) fun σ H R ⟨G, ρ, n, τ, Q', e, hw, k⟩ => ⟨G, ρ, n, τ, _, e, hw, fun rs ρ1 n1 vs G1 H1 ⟨i, j, hr, hb, h1⟩ hl e1 => by
    subst hr
    obtain ⟨v, v', rfl⟩ := len2 hl
    have e1 := zip2 e1
    have r2 := e1.topV
    have r1 := e1.pop.topV
    cases r1
    cases r2
    exact ⟨i, j, rfl, hb, k _ ρ1 n1 [] _ _ _ h1 (fun _ => itOk_rng) (by rw [List.append_nil]; exact e1.pop.pop)⟩⟩
end
end Ly

namespace Ly
open PySem PySem.Spec PyProof.Rows L2
section
variable {X : Cx} {B : Bs} {a b c e : Expr} {es : List Expr} {pos : Pos} {wa wb wc we : TD} {ws : TDA} {wt wu : TDT} {wg : TDG} {wgs : TDGs} {K : PySem.W.Frag} {ix ix' : List Nat} {st : Stmt} {sts : List Stmt} {w1 w2 : TDS} {wi : TDI}

/-! ### statements -/
def wSkip : TDS := fun E ρ n => E.nx ρ n
def wSeq (w1 w2 : TDS) : TDS := fun E ρ n => w1 { E with nx := fun ρ1 n1 => w2 E ρ1 n1 } ρ n
theorem dss_nil : DSs X B [] wSkip := PSs.imp pss_nil fun D σ H ⟨G, ρ, n, τ, D', e, hw, k, _⟩ => k _ _ _ _ _ hw e
theorem dss_one (h : DS X B st w1) : DSs X B [st] w1 := pss_one h
theorem dss_cons (h1 : DS X B st w1) (h2 : DSs X B sts w2) : DSs X B (st :: sts) (wSeq w1 w2) :=
  PSs.imp (pss_cons h1 h2) fun D σ H ⟨G, ρ, n, τ, D', e, hw, k1, k2, k3, k4⟩ => ⟨G, ρ, n, τ, { D' with nx := fun ρ1 n1 => w2 D' ρ1 n1 }, e, hw, fun σ' ρ' n' G' H' h e' => ⟨G', ρ', n', τ, D', e', h, k1, k2, k3, k4⟩, k2, k3, k4⟩
theorem ds_pass : DS X B (.Pass pos) wSkip := PS.imp ps_pass fun D σ H ⟨G, ρ, n, τ, D', e, hw, k, _⟩ => k _ _ _ _ _ hw e
def wBreak : TDS := fun E ρ n => E.bk ρ n
def wCont : TDS := fun E ρ n => E.ct ρ n
theorem ds_break : DS X B (.Break pos) wBreak := PS.imp ps_break fun D σ H ⟨G, ρ, n, τ, D', e, hw, _, _, k, _⟩ => k _ _ _ _ _ hw e
theorem ds_cont : DS X B (.Continue pos) wCont := PS.imp ps_continue fun D σ H ⟨G, ρ, n, τ, D', e, hw, _, _, _, k⟩ => k _ _ _ _ _ hw e
theorem ds_doc {x j pos pos'} : DS X B (.Expr (.Constant (.str x) j pos) pos') wSkip := PS.imp ps_doc fun D σ H ⟨G, ρ, n, τ, D', e, hw, k, _⟩ => k _ _ _ _ _ hw e
def wDrop (w : TD) : TDS := fun E ρ n => w ρ n fun _ ρ1 n1 => E.nx ρ1 n1
theorem ds_expr (he : DE X B e we) (hs : swapsWith e none pos.line X.env = pure false := by rfl) : DS X B (.Expr e pos) (wDrop we) :=
  PS.imp (ps_expr he hs) fun D σ H ⟨G, ρ, n, τ, D', e, hw, k, _⟩ => ⟨G, ρ, n, τ, _, e, hw, fun r ρ' n' v G' H' h e' => k _ _ _ _ _ h e'.pop⟩
def wRet (w : TD) : TDS := fun E ρ n => w ρ n fun r _ n1 => E.rt (dOf r) n1
theorem ds_ret (he : DE X B e we) : DS X B (.Return (some e) pos) (wRet we) :=
  PS.imp (ps_ret he) fun D σ H ⟨G, ρ, n, τ, D', e, hw, _, k, _⟩ => ⟨G, ρ, n, τ, _, e, hw, fun r ρ' n' v G' H' h e' => by
    obtain ⟨G2, x2, e2⟩ := e'.freeze
    rw [frz_val] at e2
    exact k _ _ _ _ _ _ _ h e2.topV e2.pop⟩
def wRetN : TDS := fun E _ n => E.rt .non n
theorem ds_retN : DS X B (.Return none pos) wRetN := PS.imp ps_retN fun D σ H ⟨G, ρ, n, τ, D', e, hw, _, k, _⟩ => k _ _ _ _ _ _ _ hw .non e
def wIfS (w : TDT) (w1 w2 : TDS) : TDS := fun E ρ n => w ρ n fun b ρ1 n1 => if b = true then w1 E ρ1 n1 else w2 E ρ1 n1
theorem ds_if {x y : List Stmt} (hc : DT X B c wt) (ha : DSs X B x w1) (hb : DSs X B y w2) : DS X B (.If c x y pos) (wIfS wt w1 w2) :=
  PS.imp (ps_if hc ha hb) fun D σ H ⟨G, ρ, n, τ, D', e, hw, k⟩ => ⟨G, ρ, n, τ, _, e, hw, fun b ρ' n' G' H' h e' => by
    cases b with
    | true => exact iteT ⟨G', ρ', n', τ, D', e', by simpa using h, k⟩
    | false => exact iteF ⟨G', ρ', n', τ, D', e', by simpa using h, k⟩⟩
/-- name = e -/
def wSet (i : Nat) (w : TD) : TDS := fun E ρ n => w ρ n fun r ρ1 n1 => E.nx (ρ1.set i (svOf r)) n1
theorem ds_set {i : Nat} {tg : Expr} (h : PS X (.Assign [tg] e pos) (tAsg (tD X.K B we) (gName i))) : DS X B (.Assign [tg] e pos) (wSet i we) :=
  PS.imp h fun D σ H ⟨G, ρ, n, τ, D', e, hw, k, _⟩ => ⟨G, ρ, n, τ, _, e, hw, fun r ρ' n' v G' H' h e' => by
    obtain ⟨G2, e2⟩ := e'.assign' (i := i)
    exact k _ _ _ _ _ h e2⟩
/-- target = e -/
def wAsg (w : TD) (wg : TDG) : TDS := fun E ρ n => w ρ n fun r ρ1 n1 => wg r ρ1 n1 fun ρ2 n2 => E.nx ρ2 n2
theorem EnvOk.unset {G0 G : Gh} {H0 H : Hp} {σ : L2.St} {ρ : List SV} {n : Nat} {τ : List (V × RV)} {v : V} {r : RV} (e : EnvOk K G0 H0 G H σ ρ n ((τ ++ [(v, r)]).set τ.length (.non, .val .non))) : EnvOk K G0 H0 G H σ ρ n τ := by
  rw [List.set_append_right _ _ (Nat.le_refl _)] at e
  exact e.pop
theorem ds_asg {tg : Expr} (h : PS X (.Assign [tg] e pos) (tAsg (tD X.K B we) (tDG X.K B ix wg))) : DS X B (.Assign [tg] e pos) (wAsg we wg) :=
  PS.imp h fun D σ H ⟨G, ρ, n, τ, D', e, hw, k, _⟩ => ⟨G, ρ, n, τ, _, e, hw, fun r ρ' n' v G' H' h e' => ⟨G', ρ', n', _, τ.length, r, _, e', by simp, h, fun σ2 ρ2 n2 G2 H2 h2 _ e2 => k _ _ _ _ _ h2 e2.unset⟩⟩
theorem EnvOk.sub {G0 G : Gh} {H0 H : Hp} {σ : L2.St} {ρ : List SV} {n : Nat} {τ τ' : List (V × RV)} (e : EnvOk K G0 H0 G H σ ρ n τ') (h : ∀ (j : Nat) (x : V × RV), τ[j]? = some x → τ'[j]? = some x) : EnvOk K G0 H0 G H σ ρ n τ :=
  ⟨e.gr, e.ns, e.nt, e.bg, e.fh, e.ln, e.sl, fun j v r q => e.tm j v r (h _ _ q)⟩
/-- a, b = x, y and a, b, c = x, y, z of plain names -/
def wPar2 (i j : Nat) (ws : TDA) : TDS := fun E ρ n => ws ρ n fun rs ρ1 n1 => ∃ r s, rs = [r, s] ∧ E.nx ((ρ1.set i (svOf r)).set j (svOf s)) n1
theorem ds_par2 {i j : Nat} (h : PS X st (tPar i j (tDA X.K B ws))) : DS X B st (wPar2 i j ws) :=
  PS.imp h fun D σ H ⟨G, ρ, n, τ, D', e, hw, k, _⟩ => ⟨G, ρ, n, τ, _, e, hw, fun rs ρ' n' vs G' H' ⟨r, s, hr, h1⟩ hl e' => by
    subst hr
    obtain ⟨v, v', rfl⟩ := len2 hl
    have e1 := zip2 e'
    obtain ⟨G2, e2⟩ := e1.assignAt (j := τ.length) (i := i) (v := v) (r := r) (by simp)
    obtain ⟨G3, e3⟩ := e2.assignAt (j := τ.length + 1) (i := j) (v := v') (r := s) (by simp)
    refine ⟨v, v', rfl, k _ _ _ G3 H' h1 (e3.sub fun m x hm => ?_)⟩
    have hml := (List.getElem?_eq_some_iff.mp hm).1
    rw [List.getElem?_set_ne (by omega), List.getElem?_set_ne (by omega), List.append_assoc, List.getElem?_append_left hml]
    exact hm⟩
def wPar3 (i j l : Nat) (ws : TDA) : TDS := fun E ρ n => ws ρ n fun rs ρ1 n1 => ∃ r s t, rs = [r, s, t] ∧ E.nx (((ρ1.set i (svOf r)).set j (svOf s)).set l (svOf t)) n1
theorem len3 {α β : Type} {vs : List α} {r r' r'' : β} (h : vs.length = [r, r', r''].length) : ∃ v v' v'', vs = [v, v', v''] := by
  cases vs with
  | nil => cases h
  | cons v vs => cases vs with
    | nil => simp at h
    | cons v' vs => cases vs with
      | nil => simp at h
      | cons v'' vs => cases vs with
        | nil => exact ⟨v, v', v'', rfl⟩
        | cons _ _ => simp at h
theorem zip3 {G0 G : Gh} {H0 H : Hp} {σ : L2.St} {ρ : List SV} {n : Nat} {τ : List (V × RV)} {v v' v'' : V} {r r' r'' : RV} (e : EnvOk K G0 H0 G H σ ρ n (τ ++ [v, v', v''].zip [r, r', r''])) : EnvOk K G0 H0 G H σ ρ n (τ ++ [(v, r), (v', r'), (v'', r'')]) := e
theorem ds_par3 {i j l : Nat} (h : PS X st (tPar3 i j l (tDA X.K B ws))) : DS X B st (wPar3 i j l ws) :=
  PS.imp h fun D σ H ⟨G, ρ, n, τ, D', e, hw, k, _⟩ => ⟨G, ρ, n, τ, _, e, hw, fun rs ρ' n' vs G' H' ⟨r, s, t, hr, h1⟩ hl e' => by
    subst hr
    obtain ⟨v, v', v'', rfl⟩ := len3 hl
    have e1 := zip3 e'
    obtain ⟨G2, e2⟩ := e1.assignAt (j := τ.length) (i := i) (v := v) (r := r) (by simp)
    obtain ⟨G3, e3⟩ := e2.assignAt (j := τ.length + 1) (i := j) (v := v') (r := s) (by simp)
    obtain ⟨G4, e4⟩ := e3.assignAt (j := τ.length + 2) (i := l) (v := v'') (r := t) (by simp)
    refine ⟨v, v', v'', rfl, k _ _ _ G4 H' h1 (e4.sub fun m x hm => ?_)⟩
    have hml := (List.getElem?_eq_some_iff.mp hm).1
    rw [List.getElem?_set_ne (by omega), List.getElem?_set_ne (by omega), List.getElem?_set_ne (by omega), List.getElem?_append_left hml]
    exact hm⟩
/-! ### loops -/
def loopD (wg : TDG) (wb : TDS) : List D → TDS
  | [] => fun E ρ n => E.nx ρ n
  | d :: ds => fun E ρ n => wg (.val d) ρ n fun ρ1 n1 => wb { nx := fun ρ2 n2 => loopD wg wb ds E ρ2 n2, rt := E.rt, bk := E.nx, ct := fun ρ2 n2 => loopD wg wb ds E ρ2 n2 } ρ1 n1
def wFor (wi : TDI) (wg : TDG) (wb : TDS) : TDS := fun E ρ n => wi ρ n fun ds ρ1 n1 => loopD wg wb ds E ρ1 n1
theorem ds_for {tg iter : Expr} {body : List Stmt} (hp : PassesOwn (model X.prog X.w) X.A X.env X.xe) (hc : X.calm = true) (hi : DI X B tg iter wi) (hg : DG X B ix tg wg) (hb : DSs X B body w1) (hs : ∀ x, foldedSetIterable iter X.env x = pure x := by intro _; rfl) :
    DS X B (.For tg iter body [] pos) (wFor wi wg w1) :=
  PS.imp (ps_for hp hc hi hg hb hs) fun D σ H ⟨G, ρ, n, τ, D', e, hw, k1, k2, k3, k4⟩ => ⟨G, ρ, n, τ, _, e, hw, fun ds ρ' n' τ' J G' H' h ok e' => by
    have ok := ok []
    rw [List.append_nil] at ok
    refine ⟨fun i m σ H => m = ds.length - i ∧ i ≤ ds.length ∧ ∃ G ρ n, EnvOk X.K B.1 B.2 G H σ ρ n (τ ++ τ') ∧ loopD wg w1 (ds.drop i) D' ρ n, ⟨_, rfl, Nat.zero_le _, G', ρ', n', e', h⟩, ?_⟩
    rintro i m σ1 H1 ⟨rfl, hi, G1, ρ1, n1, e1, h1⟩
    by_cases hlt : i < ds.length
    · have hd : ds[i]? = some ds[i] := List.getElem?_eq_getElem hlt
      obtain ⟨go, yl⟩ := (ok G1 H1 σ1 ρ1 n1 i e1).2 _ hd
      rw [List.drop_eq_getElem_cons hlt] at h1
      refine .inr ⟨go, fun σ H => (i + 1) ≤ ds.length ∧ ∃ G ρ n, EnvOk X.K B.1 B.2 G H σ ρ n (τ ++ τ') ∧ loopD wg w1 (ds.drop (i + 1)) D' ρ n, fun σ2 H2 h2 => ⟨ds.length - (i + 1), by omega, rfl, h2⟩, fun x H2 y => ?_⟩
      obtain ⟨G2, e2⟩ := yl x H2 y
      refine ⟨G2, ρ1, n1, _, (τ ++ τ').length, _, _, e2, by simp, h1, fun σ3 ρ3 n3 G3 H3 h3 _ e3 => ⟨G3, ρ3, n3, τ ++ τ', _, e3.unset, h3, fun σ4 ρ4 n4 G4 H4 h4 e4 => ⟨hlt, G4, ρ4, n4, e4, h4⟩, fun d n4 v G4 H4 σ4 ρ4 h4 r4 e4 => k2 _ _ _ _ _ _ _ h4 r4 e4.pop, fun σ4 ρ4 n4 G4 H4 h4 e4 => k1 _ _ _ _ _ h4 e4.pop, fun σ4 ρ4 n4 G4 H4 h4 e4 => ⟨hlt, G4, ρ4, n4, e4, h4⟩⟩⟩
    · have hi' : i = ds.length := by omega
      subst hi'
      rw [List.drop_length] at h1
      exact .inl ⟨(ok G1 H1 σ1 ρ1 n1 _ e1).1 rfl, k1 _ _ _ _ _ h1 e1.pop⟩⟩

/-! ### comprehensions -/
def wipeD (ρ : List SV) : List Nat → List SV
  | [] => ρ
  | v :: vs => (wipeD ρ vs).set v .un
theorem wipeD_length (ρ : List SV) : ∀ vs : List Nat, (wipeD ρ vs).length = ρ.length
  | [] => rfl
  | v :: vs => by unfold wipeD; rw [List.length_set, wipeD_length ρ vs]
theorem wipeD_get {ρ : List SV} {i : Nat} : ∀ {vs : List Nat}, (wipeD ρ vs)[i]? = if i ∈ vs then (if i < ρ.length then some .un else none) else ρ[i]?
  | [] => by simp [wipeD]
  | v :: vs => by
    unfold wipeD
    by_cases h : v = i
    · subst h
      by_cases hl : v < ρ.length
      · rw [List.getElem?_set_self (by rw [wipeD_length]; exact hl)]; simp [hl]
      · rw [List.getElem?_eq_none (by rw [List.length_set, wipeD_length]; omega)]; simp [hl]
    · rw [List.getElem?_set_ne h, wipeD_get]
      by_cases hm : i ∈ vs
      · simp [hm]
      · simp [hm, Ne.symm h]
/-- the state with some names forgotten; the same with other values in these -/
theorem EnvOk.wiped {G0 G : Gh} {H0 H : Hp} {σ σ' : L2.St} {ρ : List SV} {n : Nat} {τ : List (V × RV)} {vs : List Nat} (e : EnvOk K G0 H0 G H σ ρ n τ) (hs : wipe σ' vs = wipe σ vs) : EnvOk K G0 H0 G H σ' (wipeD ρ vs) n τ := by
  have hlen : σ'.length = σ.length := by rw [← wipe_length σ' vs, hs, wipe_length]
  refine ⟨e.gr, e.ns, e.nt, e.bg, e.fh, by rw [wipeD_length, e.ln, hlen], fun i s h => ?_, e.tm⟩
  rw [wipeD_get] at h
  by_cases hi : i ∈ vs
  · rw [if_pos hi] at h
    split at h
    · cases h; trivial
    · cases h
  · rw [if_neg hi] at h
    have e1 : σ'[i]? = σ[i]? := by
      have := congrArg (fun l => l[i]?) hs
      simp only [wipe_get, if_neg hi] at this
      exact this
    rw [e1]
    exact e.sl i s h
theorem wipe_wipe (σ : L2.St) (vs : List Nat) : wipe (wipe σ vs) vs = wipe σ vs := by
  apply List.ext_getElem?
  intro j
  rw [wipe_get, wipe_length]
  by_cases h : j ∈ vs
  · rw [if_pos h, wipe_get, if_pos h]
  · rw [if_neg h]
def compD (wg : TDG) (wt : TDT) (we : TD) (vs : List Nat) : List D → List D → (List D → List SV → Nat → Prop) → List SV → Nat → Prop
  | [], acc, Q => fun ρ n => Q acc ρ n
  | d :: ds, acc, Q => fun ρ n => wg (.val d) ρ n fun ρ1 n1 => wt ρ1 n1 fun b ρ2 n2 =>
      if b = true then we ρ2 n2 fun r ρ3 n3 => acc.length < sizeLine ∧ compD wg wt we vs ds (acc ++ [dOf r]) Q (wipeD ρ3 vs) n3 else compD wg wt we vs ds acc Q (wipeD ρ2 vs) n2
def wLc (wi : TDI) (wg : TDG) (wt : TDT) (we : TD) (vs : List Nat) : TD := fun ρ n Q => wi ρ n fun ds ρ1 n1 => compD wg wt we vs ds [] (fun l ρ2 n2 => Q (.new l) (wipeD ρ2 vs) n2) (wipeD ρ1 vs) n1
theorem tLc_of {vs : List Nat} (hix : ∀ i ∈ ix, i ∈ vs) {σ : L2.St} {H : Hp} {Q : VK} (h : tD K B (wLc wi wg wt we vs) σ H Q) : tLc (tDI K B wi) (tDG K B ix wg) (tDT K B wt) (tD K B we) vs σ H Q := by
  obtain ⟨G, ρ, n, τ, Q', e, hw, k⟩ := h
  refine ⟨G, ρ, n, τ, _, e, hw, fun ds ρ' n' τ' J G' H' h ok e' Dd hD => ?_⟩
  have e0 : EnvOk K B.1 B.2 _ (upd H' Dd (.lst [])) (wipe σ vs) (wipeD ρ' vs) n' (τ ++ τ' ++ [(.ref Dd, .new [])]) := (e'.wiped (wipe_wipe σ vs)).pushNew hD .nil
  refine ⟨fun i m H => m = ds.length - i ∧ i ≤ ds.length ∧ ∃ G ρ n acc, EnvOk K B.1 B.2 G H (wipe σ vs) ρ n (τ ++ τ' ++ [(.ref Dd, .new acc)]) ∧ compD wg wt we vs (ds.drop i) acc (fun l ρ2 n2 => Q' (.new l) (wipeD ρ2 vs) n2) ρ n, ⟨_, rfl, Nat.zero_le _, _, _, n', [], e0, h⟩, ?_⟩
  rintro i m H1 ⟨rfl, hi, G1, ρ1, n1, acc, e1, h1⟩
  have ok1 := ok [(.ref Dd, .new acc)]
  by_cases hlt : i < ds.length
  · have hd : ds[i]? = some ds[i] := List.getElem?_eq_getElem hlt
    obtain ⟨go, yl⟩ := (ok1 G1 H1 _ ρ1 n1 i e1).2 _ hd
    rw [List.drop_eq_getElem_cons hlt] at h1
    refine .inr ⟨go, fun H => (i + 1) ≤ ds.length ∧ ∃ G ρ n acc, EnvOk K B.1 B.2 G H (wipe σ vs) ρ n (τ ++ τ' ++ [(.ref Dd, .new acc)]) ∧ compD wg wt we vs (ds.drop (i + 1)) acc (fun l ρ2 n2 => Q' (.new l) (wipeD ρ2 vs) n2) ρ n, fun H2 h2 => ⟨ds.length - (i + 1), by omega, rfl, h2⟩, fun x H2 y => ?_⟩
    obtain ⟨G2, e2⟩ := yl x H2 y
    refine ⟨G2, ρ1, n1, _, (τ ++ τ' ++ [(V.ref Dd, RV.new acc)]).length, _, _, e2, by simp, h1, fun σ3 ρ3 n3 G3 H3 h3 kp e3 => ?_⟩
    have hk : wipe σ3 vs = wipe σ vs := (kp vs hix).trans (wipe_wipe σ vs)
    refine ⟨hk, G3, ρ3, n3, _, _, e3.unset, h3, fun b ρ4 n4 G4 H4 h4 e4 => ?_⟩
    cases b with
    | false =>
      refine iteF ?_
      refine ⟨hlt, G4, _, n4, acc, e4.wiped (vs := vs) ?_, by simpa using h4⟩
      rw [hk, wipe_wipe]
    | true =>
      refine iteT ?_
      have h4' : we ρ4 n4 (fun r ρ3 n3 => acc.length < sizeLine ∧ compD wg wt we vs (ds.drop (i + 1)) (acc ++ [dOf r]) (fun l ρ2 n2 => Q' (.new l) (wipeD ρ2 vs) n2) (wipeD ρ3 vs) n3) := by simpa using h4
      refine ⟨G4, ρ4, n4, _, _, e4, h4', fun r ρ5 n5 v G5 H5 ⟨hz, h5⟩ e5 => ?_⟩
      obtain ⟨G6, x6, e6⟩ := e5.freeze
      rw [frz_val] at e6
      obtain ⟨a', ws, ea, g, ha, rl⟩ := e6.top2
      cases ea
      refine ⟨ws, ha, by rw [rl.length]; exact hz, hlt, G6, _, n5, acc ++ [dOf r], (EnvOk.grow (e6.pop.wiped (vs := vs) ?_) ha e6.topV), h5⟩
      rw [hk, wipe_wipe]
  · have hi' : i = ds.length := by omega
    subst hi'
    rw [List.drop_length] at h1
    obtain ⟨G2, e2⟩ := (e1.wiped (σ' := σ) (vs := vs) (wipe_wipe σ vs).symm).mid
    exact .inl ⟨(ok1 G1 H1 _ ρ1 n1 _ e1).1 rfl, k _ _ _ _ _ _ h1 e2⟩
end
end Ly

namespace Ly
open PySem PySem.Spec PyProof.Rows L2
section
variable {X : Cx} {B : Bs} {a b c e elt tg iter : Expr} {es : List Expr} {pos : Pos} {wa wb wc we : TD} {ws : TDA} {wt wu : TDT} {wg : TDG} {wgs : TDGs} {K : PySem.W.Frag} {ix ix' : List Nat} {st : Stmt} {sts : List Stmt} {w1 w2 : TDS} {wi : TDI} {ifs : List Expr} {scope : Scope} {own : List (Str × Nat)}

/-! ### comprehensions, as values and given to names -/
theorem de_lc {vs : List Nat} (hv : own.map (·.2) = vs) (hix : ∀ i ∈ ix, i ∈ vs) (h : PE X (.ListComp elt [⟨tg, iter, ifs, 0⟩] scope pos) (tLc (tDI X.K B wi) (tDG X.K B ix wg) (tDT X.K B wt) (tD X.K B we) (own.map (·.2)))) :
    DE X B (.ListComp elt [⟨tg, iter, ifs, 0⟩] scope pos) (wLc wi wg wt we vs) := PE.imp h fun _ _ _ q => by subst hv; exact tLc_of hix q
def wYes : TDT := fun ρ n Q => Q true ρ n
theorem dts_nil : PTs X [] (tDT X.K B wYes) := ⟨fun pins s σ H Q I ⟨G, ρ, n, τ, Q', e, hw, k⟩ => pts_nil.run pins s σ H Q I (k _ _ _ _ _ hw e)⟩
theorem dts_one (h : DT X B c wt) : PTs X [c] (tDT X.K B wt) := pts_one h
theorem ds_setLc {i : Nat} {vs : List Nat} {y : Str} {py spos : Pos} (hv : own.map (·.2) = vs) (hix : ∀ i ∈ ix, i ∈ vs) (h : PS X (.Assign [.Name y py] (.ListComp elt [⟨tg, iter, ifs, 0⟩] scope pos) spos) (tAsg (tLc (tDI X.K B wi) (tDG X.K B ix wg) (tDT X.K B wt) (tD X.K B we) (own.map (·.2))) (gName i))) :
    DS X B (.Assign [.Name y py] (.ListComp elt [⟨tg, iter, ifs, 0⟩] scope pos) spos) (wSet i (wLc wi wg wt we vs)) :=
  ds_set (PS.imp h fun D σ H q => by subst hv; exact tLc_of hix q)

/-! ### methods of a name's own list -/
theorem own_at {G0 G : Gh} {H0 H : Hp} {σ : L2.St} {ρ : List SV} {n : Nat} {τ : List (V × RV)} {i : Nat} {l : List D} (e : EnvOk K G0 H0 G H σ ρ n τ) (h : ρ[i]? = some (.own l)) : ∃ a vs, σ[i]? = some (some (.ref a)) ∧ G a = .slot i ∧ H a = some (.lst vs) ∧ RepL K G H vs l := e.sl i _ h
def wApp (i : Nat) (w : TD) : TD := fun ρ n Q => (∃ l, ρ[i]? = some (.own l)) ∧ w ρ n fun r ρ1 n1 => ∃ l, ρ1[i]? = some (.own l) ∧ l.length < sizeLine ∧ Q (.val .non) (ρ1.set i (.own (l ++ [dOf r]))) n1
theorem de_app {i : Nat} (h : PE X e (tBM X.K "list" rAppend (tVar i) (tCons (tD X.K B wa) tNil))) : DE X B e (wApp i wa) :=
  PE.imp h fun σ H Q ⟨G, ρ, n, τ, Q', e, ⟨⟨l, hl⟩, hw⟩, k⟩ => by
    obtain ⟨p, vs, ev, g, hp, rl⟩ := own_at e hl
    refine ⟨_, ev, .inl ⟨rfl, _, SqL.of hp⟩, G, ρ, n, τ, _, e, hw, fun r ρ1 n1 v G1 H1 ⟨l1, hl1, hz, h1⟩ e1 => ?_⟩
    obtain ⟨G2, x2, e2⟩ := e1.freeze
    rw [frz_val] at e2
    obtain ⟨p', ws, ev', g', hp', rl'⟩ := own_at e2.pop hl1
    rw [ev] at ev'
    cases ev'
    obtain ⟨x3, e3⟩ := EnvOk.mutate e2.pop hl1 ev g' hp' (rl'.append (.cons e2.topV .nil))
    exact ⟨p, ws, v, rfl, rfl, hp', by rw [rl'.length]; exact hz, k _ _ _ _ _ _ h1 (e3.pushV .non)⟩
def wPop (i : Nat) (w : TD) : TD := fun ρ n Q => (∃ l, ρ[i]? = some (.own l)) ∧ w ρ n fun r ρ1 n1 => ∃ l j d, ρ1[i]? = some (.own l) ∧ r = .val (.int (j : Nat)) ∧ j < 2 ^ 62 ∧ l[j]? = some d ∧ Q (.val d) (ρ1.set i (.own (l.eraseIdx j))) n1
theorem seqIx {n j : Nat} (h : j < n) : seqIndex? (j : Int) n = some j := by
  have : ixN n (j : Int) = some j := by unfold ixN; rw [if_pos (by omega), if_pos (by omega)]; rfl
  exact (ixN_seq this).1
theorem de_pop {i : Nat} (h : PE X e (tBM X.K "list" rPopAt (tVar i) (tCons (tD X.K B wa) tNil))) : DE X B e (wPop i wa) :=
  PE.imp h fun σ H Q ⟨G, ρ, n, τ, Q', e, ⟨⟨l, hl⟩, hw⟩, k⟩ => by
    obtain ⟨p, vs, ev, g, hp, rl⟩ := own_at e hl
    refine ⟨_, ev, .inl ⟨rfl, _, SqL.of hp⟩, G, ρ, n, τ, _, e, hw, fun r ρ1 n1 v G1 H1 ⟨l1, j, d, hl1, hr, hj, hd, h1⟩ e1 => ?_⟩
    subst hr
    have rv := e1.topV
    cases rv
    obtain ⟨p', ws, ev', g', hp', rl'⟩ := own_at e1.pop hl1
    rw [ev] at ev'
    cases ev'
    obtain ⟨y, hy, ry⟩ := rl'.get hd
    have hjl : j < ws.length := (List.getElem?_eq_some_iff.mp hy).1
    obtain ⟨x3, e3⟩ := EnvOk.mutate e1.pop hl1 ev g' hp' (rl'.eraseIdx j)
    exact ⟨p, ws, j, j, y, rfl, rfl, hp', by omega, by omega, seqIx hjl, hy, k _ _ _ _ _ _ h1 (e3.pushV (ry.mono x3))⟩
/-- xs[k] = e of a name's own list -/
def wgIx (i : Nat) (wk : TD) : TDG := fun r ρ n Q => (∃ l, ρ[i]? = some (.own l)) ∧ ∃ d, r = .val d ∧ wk ρ n fun r2 ρ1 n1 => ∃ l k j, ρ1[i]? = some (.own l) ∧ r2 = .val (.int k) ∧ ixN l.length k = some j ∧ Q (ρ1.set i (.own (l.set j d))) n1
theorem ds_setIx {i : Nat} (h : PS X st (tAsg (tD X.K B we) (gSub (tVar i) (tD X.K B wb) rSetL))) : DS X B st (wAsg we (wgIx i wb)) :=
  PS.imp h fun D σ H ⟨G, ρ, n, τ, D', e, hw, k, _⟩ => ⟨G, ρ, n, τ, _, e, hw, fun r ρ' n' v G' H' ⟨⟨l, hl⟩, d, hr, h1⟩ e' => by
    subst hr
    obtain ⟨p, vs, ev, g, hp, rl⟩ := own_at e' hl
    refine ⟨_, ev, G', ρ', n', _, _, e', h1, fun r2 ρ1 n1 v2 G1 H1 ⟨l1, kk, j, hl1, hr, hj, h2⟩ e1 => ?_⟩
    subst hr
    have rv := e1.topV
    cases rv
    obtain ⟨p', ws, ev', g', hp', rl'⟩ := own_at e1.pop hl1
    rw [ev] at ev'
    cases ev'
    obtain ⟨x3, e3⟩ := EnvOk.mutate e1.pop hl1 ev g' hp' (RepL.set e1.pop.topV j rl')
    exact ⟨p, ws, kk, j, rfl, rfl, hp', by rw [rl'.length]; exact hj, k _ _ _ _ _ h2 e3.pop⟩⟩

/-! ### slices -/
abbrev TDO := List SV → Nat → (Option Int → List SV → Nat → Prop) → Prop
def tDO (K : PySem.W.Frag) (B : Bs) (w : TDO) : TO := fun σ H Q => ∃ G ρ n τ Q', EnvOk K B.1 B.2 G H σ ρ n τ ∧ w ρ n Q' ∧ ∀ o ρ' n' G' H', Q' o ρ' n' → EnvOk K B.1 B.2 G' H' σ ρ' n' τ → Q o H'
theorem PO.imp {o : Option Expr} {t t' : TO} (h : PO X o t) (i : ∀ σ H Q, t' σ H Q → t σ H Q) : PO X o t' := ⟨fun pins s σ H Q I q => h.run pins s σ H Q I (i _ _ _ q)⟩
abbrev DO (X : Cx) (B : Bs) (o : Option Expr) (w : TDO) : Prop := PO X o (tDO X.K B w)
def woN : TDO := fun ρ n Q => Q none ρ n
def woS (w : TD) : TDO := fun ρ n Q => w ρ n fun r ρ1 n1 => ∃ i, r = .val (.int i) ∧ Q (some i) ρ1 n1
theorem do_none : DO X B none woN := PO.imp po_none fun σ H Q ⟨G, ρ, n, τ, Q', e, hw, k⟩ => k _ _ _ _ _ hw e
theorem do_some (ha : DE X B a wa) : DO X B (some a) (woS wa) := PO.imp (po_some ha) fun σ H Q ⟨G, ρ, n, τ, Q', e, hw, k⟩ => ⟨G, ρ, n, τ, _, e, hw, fun r ρ1 n1 v G1 H1 ⟨i, hr, h1⟩ e1 => by
  subst hr
  have rv := e1.topV
  cases rv
  exact ⟨i, rfl, k _ _ _ _ _ h1 e1.pop⟩⟩
def cutD (xs : List D) (lo hi : Option Int) : List D := (xs.drop (HT.sIx xs.length 0 lo)).take (HT.sIx xs.length xs.length hi - HT.sIx xs.length 0 lo)
theorem RepL.cut {G : Gh} {H : Hp} {vs : List V} {ds : List D} (h : RepL K G H vs ds) (lo hi : Option Int) : RepL K G H (cutV vs lo hi) (cutD ds lo hi) := by
  unfold cutV cutD
  rw [h.length]
  exact (h.drop _).take _
def gSl (lo hi : Option Int) (r : RV) (R : RV → Prop) : Prop := match r with
  | .val (.tup l) => R (.val (.tup (cutD l lo hi)))
  | r => ∃ l, listOf r = some l ∧ R (.new (cutD l lo hi))
def wSl (wa : TD) (wl wh : TDO) : TD := fun ρ n Q => wa ρ n fun r ρ1 n1 => wl ρ1 n1 fun lo ρ2 n2 => wh ρ2 n2 fun hi ρ3 n3 => gSl lo hi r fun r' => Q r' ρ3 n3
theorem cut_whole {α : Type} {xs : List α} {lo hi : Option Int} (h : HT.sIx xs.length 0 lo = 0 ∧ HT.sIx xs.length xs.length hi = xs.length) : (xs.drop (HT.sIx xs.length 0 lo)).take (HT.sIx xs.length xs.length hi - HT.sIx xs.length 0 lo) = xs := by
  rw [h.1, h.2]; simp
theorem de_slice {lo hi : Option Expr} {wl wh : TDO} {p2 : Pos} (ha : DE X B a wa) (hl : DO X B lo wl) (hh : DO X B hi wh) : DE X B (.Subscript a (.Slice lo hi none p2) pos) (wSl wa wl wh) :=
  PE.imp (pe_slice (sl_tupA.or sl_list) ha hl hh) fun σ H Q ⟨G, ρ, n, τ, Q', e, hw, k⟩ => ⟨G, ρ, n, τ, _, e, hw, fun r ρ1 n1 v G1 H1 h1 e1 => ⟨G1, ρ1, n1, _, _, e1, h1, fun lo ρ2 n2 G2 H2 h2 e2 => ⟨G2, ρ2, n2, _, _, e2, h2, fun hi ρ3 n3 G3 H3 h3 e3 => by
    have lists : ∀ l, listOf r = some l → Q' (.new (cutD l lo hi)) ρ3 n3 → (rSlA X.K v lo hi H3 Q ∨ rSlL X.K v lo hi H3 Q) := fun l hl hq => by
      obtain ⟨p, vs, rfl, hp, rl⟩ := tmp_list e3.top hl
      exact .inr ⟨p, vs, rfl, SqL.of hp, fun q hq' => k _ _ _ _ _ _ hq (e3.pop.pushNew hq' (rl.cut lo hi))⟩
    unfold gSl at h3
    split at h3
    · rename_i l
      have rv := e3.topV
      cases rv with
      | tup sq rl =>
        refine .inl ⟨_, _, rfl, SqT.of sq, fun hw => k _ _ _ _ _ _ h3 (e3.pop.pushV (.tup sq ?_)), fun _ p hp => k _ _ _ _ _ _ h3 (e3.pop.pushTup hp (rl.cut lo hi))⟩
        have e5 : cutD l lo hi = l := by
          rw [rl.length] at hw
          exact cut_whole hw
        rw [e5]
        exact rl
    · obtain ⟨l, hl, hq⟩ := h3
      exact lists l hl hq⟩⟩⟩
end

/-! ### what a def promises, said of data -/
abbrev Ctr := List D → Nat → (D → Nat → Prop) → Prop
structure G0Ok (G : Gh) (H : Hp) (n : Nat) : Prop where
  ns : ∀ a i, G a ≠ .slot i
  nt : ∀ a i, G a ≠ .tmp i
  bg : ∀ a b, G a = .bagd b → BagOk G H n a b
  fh : ∀ a, H a = none → G a = .free
def spC (K : PySem.W.Frag) (m : Nat) (c : Ctr) : Sp := fun vs H Q _ => ∃ G ds n Q', G0Ok G H n ∧ ds.length = m ∧ RepL K G H vs ds ∧ c ds n Q' ∧
  ∀ d n' v G' H', Q' d n' → Gr G H G' H' → (∀ a b, G' a = .bagd b → BagOk G' H' n' a b) → (∀ a, H' a = none → G' a = .free) → Rep K G' H' v d → Q v H'
def startD (N : List Str) (ds : List D) : List SV := ds.map .val ++ List.replicate (N.length - ds.length) .un
theorem Gr.refl {G : Gh} {H : Hp} : Gr G H G H := ⟨fun _ _ h _ _ => ⟨h, rfl⟩, fun _ _ h => h, fun _ _ h => h, fun _ _ h => h, fun _ _ _ h => h⟩
theorem envOk_start {K : PySem.W.Frag} {G : Gh} {H : Hp} {n : Nat} {N : List Str} {vs : List V} {ds : List D} (g : G0Ok G H n) (rl : RepL K G H vs ds) : EnvOk K G H G H (L2.start N vs) (startD N ds) n [] := by
  refine ⟨.refl, g.ns, g.nt, g.bg, g.fh, ?_, fun i s h => ?_, fun j v r h => by simp at h⟩
  · unfold startD L2.start
    rw [List.length_append, List.length_append, List.length_map, List.length_map, List.length_replicate, List.length_replicate, rl.length]
  · unfold startD at h
    by_cases hi : i < ds.length
    · rw [List.getElem?_append_left (by rw [List.length_map]; exact hi), List.getElem?_map, List.getElem?_eq_getElem hi] at h
      cases h
      obtain ⟨v, hv, rv⟩ := rl.get (List.getElem?_eq_getElem hi)
      refine ⟨v, ?_, rv⟩
      unfold L2.start
      rw [List.getElem?_append_left (by rw [List.length_map, rl.length]; exact hi), List.getElem?_map, hv]
      rfl
    · rw [List.getElem?_append_right (by rw [List.length_map]; omega), List.getElem?_replicate] at h
      split at h
      · cases h; trivial
      · cases h
/-- THE RULE for a def -/
theorem def_ok {P : Program} {w : World} {K : PySem.W.Frag} {mg : Str → Option Value} {base : Heap} {x qual : Str} {st : Stmt} {f : Addr} {fd : FuncData} {N ps : List Str} {k m : Nat} {c : Ctr} {wb : TDS} (F : Fun K x qual st f fd) (S : FnScope N ps (defScope st)) (hm : ps.length = m)
    (hbody : ∀ (cdv : Value) (A : Around) (outer : List Env) (s : Shared) (H : Hp) (E : XK) (B : Bs), Room k (A.deeper (envOfC qual (defScope st) s.heap.objs.size f cdv)) → DSs (cxOf CX0 P w K mg base N qual (defScope st) f cdv A outer s H E).nox B (defBody st) wb)
    (hc : ∀ ds n Q, ds.length = m → c ds n Q → wb { nx := fun _ n' => Q .non n', rt := Q } (startD N ds) n) : FnOk P w K mg base CX0 (k + 1) f fd ps (spC K m c) := by
  refine F.ok S (fun vs H Q E ⟨G, ds, n, Q', g, hl, rl, hc, hq⟩ => by rw [rl.length, hl, hm]) (fun cdv A outer s H vs Q E hr ⟨G, ds, n, Q', g, hl, rl, h1, hq⟩ => ?_)
  exact ⟨_, hbody cdv A outer s H E (G, H) hr, G, startD N ds, n, [], _, envOk_start g rl, hc ds n Q' hl h1, fun σ' ρ' n' G' H' h2 e2 => hq .non n' .non G' H' h2 e2.gr e2.bg e2.fh .non,
    fun d n' v G' H' σ' ρ' h2 r2 e2 => hq d n' v G' H' h2 e2.gr e2.bg e2.fh r2, fun _ _ _ _ _ z => z.elim, fun _ _ _ _ _ z => z.elim⟩

/-! ### a def's call -/
def outG (G : Gh) : Gh := fun a => match G a with
  | .slot _ => .oth
  | .tmp _ => .oth
  | t => t
def backG (G G' : Gh) : Gh := fun a => match G a with
  | .slot i => .slot i
  | .tmp i => .tmp i
  | _ => match G' a with
    | .slot _ => .free
    | .tmp _ => .free
    | t => t
theorem outG_slot {G : Gh} {a : Addr} {i : Nat} (h : G a = .slot i) : outG G a = .oth := by unfold outG; rw [h]
theorem outG_tmp {G : Gh} {a : Addr} {i : Nat} (h : G a = .tmp i) : outG G a = .oth := by unfold outG; rw [h]
theorem outG_eq {G : Gh} {a : Addr} (h1 : ∀ i, G a ≠ .slot i) (h2 : ∀ i, G a ≠ .tmp i) : outG G a = G a := by
  unfold outG; split
  · rename_i i h; exact absurd h (h1 i)
  · rename_i i h; exact absurd h (h2 i)
  · rfl
theorem outG_iff {G : Gh} {a : Addr} {t : Tg} (h : outG G a = t) (ht : t ≠ .oth) : G a = t := by
  unfold outG at h; split at h
  · exact absurd h.symm ht
  · exact absurd h.symm ht
  · exact h
theorem backG_slot {G G' : Gh} {a : Addr} {i : Nat} (h : G a = .slot i) : backG G G' a = .slot i := by unfold backG; rw [h]
theorem backG_tmp {G G' : Gh} {a : Addr} {i : Nat} (h : G a = .tmp i) : backG G G' a = .tmp i := by unfold backG; rw [h]
theorem backG_eq {G G' : Gh} {a : Addr} (h1 : ∀ i, G a ≠ .slot i) (h2 : ∀ i, G a ≠ .tmp i) (h3 : ∀ i, G' a ≠ .slot i) (h4 : ∀ i, G' a ≠ .tmp i) : backG G G' a = G' a := by
  unfold backG; split
  · rename_i i h; exact absurd h (h1 i)
  · rename_i i h; exact absurd h (h2 i)
  · split
    · rename_i i h; exact absurd h (h3 i)
    · rename_i i h; exact absurd h (h4 i)
    · rfl
section
variable {K : PySem.W.Frag} {G0 G G' : Gh} {H0 H H' : Hp} {σ : L2.St} {ρ : List SV} {n n' : Nat} {τ : List (V × RV)}
theorem EnvOk.out (e : EnvOk K G0 H0 G H σ ρ n τ) : G0Ok (outG G) H n ∧ Ext G H (outG G) H := by
  refine ⟨⟨fun a i h => ?_, fun a i h => ?_, fun a b h => ?_, fun a h => ?_⟩, ⟨fun a h => ⟨?_, fun _ q => q⟩, fun _ _ q => q, fun _ _ _ q => q, fun a b h => ?_⟩⟩
  · have := outG_iff h (by simp); rw [outG_slot this] at h; cases h
  · have := outG_iff h (by simp); rw [outG_tmp this] at h; cases h
  · have h := outG_iff h (by simp)
    obtain ⟨gb, z⟩ := e.bg a b h
    exact ⟨by rw [outG_eq (by rw [gb]; simp) (by rw [gb]; simp)]; exact gb, z⟩
  · have := e.fh a h
    rw [outG_eq (by rw [this]; simp) (by rw [this]; simp)]; exact this
  · rw [outG_eq (by rw [h]; simp) (by rw [h]; simp)]; exact h
  · rw [outG_eq (by rw [h]; simp) (by rw [h]; simp)]; exact h
/-- behind a call: the callee kept what was the caller's -/
theorem EnvOk.back (e : EnvOk K G0 H0 G H σ ρ n τ) (gr : Gr (outG G) H G' H') (bg : ∀ a b, G' a = .bagd b → BagOk G' H' n' a b) (fh : ∀ a, H' a = none → G' a = .free) :
    EnvOk K G0 H0 (backG G G') H' σ ρ n' τ ∧ Ext G' H' (backG G G') H' := by
  -- an address that the caller owns
  have ownd : ∀ a, (∃ i, G a = .slot i) ∨ (∃ i, G a = .tmp i) → ∃ o, H a = some o ∧ H' a = some o ∧ G' a = .oth := fun a h => by
    have hG : outG G a = .oth := by rcases h with ⟨i, h⟩ | ⟨i, h⟩; exact outG_slot h; exact outG_tmp h
    cases q : H a with
    | none => have := e.fh a q; rcases h with ⟨i, h⟩ | ⟨i, h⟩ <;> (rw [h] at this; cases this)
    | some o =>
      obtain ⟨z1, z2⟩ := gr.keep a o q (by rw [hG]; simp) (by rw [hG]; simp)
      exact ⟨o, rfl, z1, z2.trans hG⟩
  have noown : ∀ a, G' a ≠ .oth → (∀ i, G a ≠ .slot i) ∧ ∀ i, G a ≠ .tmp i := fun a h =>
    ⟨fun i q => h (by obtain ⟨_, _, _, z⟩ := ownd a (.inl ⟨i, q⟩); exact z), fun i q => h (by obtain ⟨_, _, _, z⟩ := ownd a (.inr ⟨i, q⟩); exact z)⟩
  have bk : ∀ a t, G' a = t → t ≠ .oth → (∀ i, t ≠ .slot i) → (∀ i, t ≠ .tmp i) → backG G G' a = t := fun a t h h1 h2 h3 => by
    subst h
    exact backG_eq (noown a h1).1 (noown a h1).2 h2 h3
  have bki : ∀ a b, backG G G' a = .bagd b → G' a = .bagd b := fun a b h => by
    unfold backG at h
    split at h
    · cases h
    · cases h
    · split at h
      · cases h
      · cases h
      · exact h
  have x2 : Ext G' H' (backG G G') H' := ⟨fun a h => ⟨bk a _ h (by simp) (by simp) (by simp), fun _ q => q⟩, fun _ _ q => q, fun _ _ _ q => q, fun a b h => bk a _ h (by simp) (by simp) (by simp)⟩
  have keepG : ∀ a o, H a = some o → (∀ b, G a ≠ .bagd b) → (∀ b, G a ≠ .bagl b) → H' a = some o := fun a o q h1 h2 =>
    (gr.keep a o q (fun b z => h1 b (outG_iff z (by simp))) (fun b z => h2 b (outG_iff z (by simp)))).1
  have x1 : Ext G H (backG G G') H' := by
    refine ⟨fun a h => ?_, gr.tup, gr.frz, fun a b h => ?_⟩
    · cases q : H a with
      | none => have := e.fh a q; rw [h] at this; cases this
      | some o =>
        have ho : outG G a = .fro := by rw [outG_eq (by rw [h]; simp) (by rw [h]; simp)]; exact h
        obtain ⟨z1, z2⟩ := gr.keep a o q (by rw [ho]; simp) (by rw [ho]; simp)
        exact ⟨bk a _ (z2.trans ho) (by simp) (by simp) (by simp), fun o' q' => by cases q'; exact z1⟩
    · have ho : outG G a = .bagd b := by rw [outG_eq (by rw [h]; simp) (by rw [h]; simp)]; exact h
      exact bk a _ (gr.bagd a b ho) (by simp) (by simp) (by simp)
  refine ⟨⟨⟨fun a o q h1 h2 => ?_, fun a b h => ?_, fun a b h => ?_, fun a xs q => gr.tup a xs (e.gr.tup a xs q), fun a o u q => gr.frz a o u (e.gr.frz a o u q)⟩, e.ns, e.nt, fun a b h => ?_, fun a h => ?_, e.ln,
    fun i s hs => (e.sl i s hs).mono x1 fun a vs g q => ⟨backG_slot g, keepG a _ q (by rw [g]; simp) (by rw [g]; simp)⟩, fun j v r h => (e.tm j v r h).mono x1 fun a vs g q => ⟨backG_tmp g, keepG a _ q (by rw [g]; simp) (by rw [g]; simp)⟩⟩, x2⟩
  · obtain ⟨z1, z2⟩ := e.gr.keep a o q h1 h2
    have hs : ∀ i, G a ≠ .slot i := fun i z => e.ns a i (z2.symm.trans z)
    have ht : ∀ i, G a ≠ .tmp i := fun i z => e.nt a i (z2.symm.trans z)
    have ho : outG G a = G a := outG_eq hs ht
    obtain ⟨y1, y2⟩ := gr.keep a o z1 (fun b z => h1 b (z2.symm.trans (ho.symm.trans z))) (fun b z => h2 b (z2.symm.trans (ho.symm.trans z)))
    refine ⟨y1, ?_⟩
    rw [backG_eq hs ht (fun i z => hs i (ho.symm.trans (y2.symm.trans z))) (fun i z => ht i (ho.symm.trans (y2.symm.trans z))), y2, ho, z2]
  · have z := e.gr.bagd a b h
    exact bk a _ (gr.bagd a b (by rw [outG_eq (by rw [z]; simp) (by rw [z]; simp)]; exact z)) (by simp) (by simp) (by simp)
  · have z := e.gr.bagl a b h
    exact bk a _ (gr.bagl a b (by rw [outG_eq (by rw [z]; simp) (by rw [z]; simp)]; exact z)) (by simp) (by simp) (by simp)
  · obtain ⟨gb, z⟩ := bg a b (bki a b h)
    exact ⟨bk b _ gb (by simp) (by simp) (by simp), z⟩
  · have hf := fh a h
    exact bk a _ hf (by simp) (by simp) (by simp)
end
section
variable {X : Cx} {B : Bs} {e : Expr} {es : List Expr} {ws : TDA} {pos : Pos}
def wCall (m : Nat) (c : Ctr) (ws : TDA) : TD := fun ρ n Q => ws ρ n fun rs ρ1 n1 => rs.length = m ∧ c (rs.map dOf) n1 fun d n2 => Q (.val d) ρ1 n2
theorem de_call {m : Nat} {c : Ctr} {E : XK} (h : PE X e (tCall (spC X.K m c) [] E (tDA X.K B ws))) : DE X B e (wCall m c ws) :=
  PE.imp h fun σ H Q ⟨G, ρ, n, τ, Q', e, hw, k⟩ => ⟨G, ρ, n, τ, _, e, hw, fun rs ρ1 n1 vs G1 H1 ⟨hm, h1⟩ hl e1 => by
    obtain ⟨G2, x2, e2, rl⟩ := EnvOk.freezeAll rs vs τ G1 hl e1
    obtain ⟨g0, x3⟩ := e2.out
    refine ⟨outG G2, rs.map dOf, n1, _, g0, by rw [List.length_map]; exact hm, by rw [List.append_nil]; exact rl.mono x3, h1, fun d n2 v G' H' h2 gr bg fh rv => ?_⟩
    obtain ⟨e3, x4⟩ := e2.back gr bg fh
    exact k _ _ _ _ _ _ h2 (e3.pushV (rv.mono x4))⟩
end
end Ly

namespace Ly
open PySem PySem.Spec PyProof.Rows L2 RZ
/-! ### tuple * int -/
theorem tuple_mul_zero (l : Addr) (items : Array Value) (n : Nat) (dd : Option Addr) (sl : Array (Option Value)) (x : Int) (u : Tok) (c0 : (decide (x < -(2 ^ 63)) || decide (x ≥ 2 ^ 63)) = false) (c1 : (items.isEmpty || x == 1) = false) (c2 : (decide (x ≤ 0) || items.isEmpty) = true) :
    Meets (Builtin.«tuple.__mul__» ⟨[.ref l, .int x u], []⟩) (fun _ R s => s.heap.get? l = some { cls := .type "tuple", dict := dd, data := .seq items n, slots := sl } ∧
      R (.ok (.ret (Value.ref s.heap.objs.size))) { s with heap := s.heap.push { cls := Value.type "tuple", data := Data.seq #[] }, toks := s.toks }) :=
  .of_wp fun prog w A R s h => by
    obtain ⟨hp, g, d, tk, os⟩ := s
    obtain ⟨hl, h⟩ := h
    have f1 := AutoSeq1.idx_int
    wp_walk using wpAny_loadPart' hl
    repeat (first
      | (refine wpAny_ite_false (decide_eq_false (by rw [c0]; exact Bool.false_ne_true)) ?_; wp_walk using wpAny_loadPart' hl)
      | (refine wpAny_ite_false (decide_eq_false (by rw [c1]; exact Bool.false_ne_true)) ?_; wp_walk using wpAny_loadPart' hl))
    exact ⟨_, rfl, h⟩
theorem tuple_mul_one (l : Addr) (items : Array Value) (n : Nat) (dd : Option Addr) (sl : Array (Option Value)) (x : Int) (u : Tok) (c0 : (decide (x < -(2 ^ 63)) || decide (x ≥ 2 ^ 63)) = false) (c1 : (items.isEmpty || x == 1) = true) :
    Meets (Builtin.«tuple.__mul__» ⟨[.ref l, .int x u], []⟩) (fun _ R s => s.heap.get? l = some { cls := .type "tuple", dict := dd, data := .seq items n, slots := sl } ∧
      R (.ok (.ret (Value.ref l))) s) :=
  .of_wp fun prog w A R s h => by
    obtain ⟨hp, g, d, tk, os⟩ := s
    obtain ⟨hl, h⟩ := h
    have f1 := AutoSeq1.idx_int
    wp_walk using wpAny_loadPart' hl
    repeat (first
      | (refine wpAny_ite_false (decide_eq_false (by rw [c0]; exact Bool.false_ne_true)) ?_; wp_walk using wpAny_loadPart' hl))
    exact ⟨_, rfl, h⟩
def rRepA (K : PySem.W.Frag) : R2 := fun x y H Q => ∃ l k xs, x = .ref l ∧ y = .int k ∧ SqT K H l xs ∧ xs ≠ [] ∧ -1000 ≤ k ∧ k ≤ 1000 ∧ xs.length ≤ 1000 ∧ (k = 1 → Q (.ref l) H) ∧ (k ≠ 1 → ∀ p, H p = none → Q (.ref p) (upd H p (.tup (List.replicate k.toNat xs).flatten)))
theorem op_repA {X : Cx} : OpR X (binaryOp .Mult) (rRepA X.K) := by
  intro pins st sl H x y v u Q I rx ry hh
  obtain ⟨l, k, xs, rfl, rfl, hT, hne, h1, h2, hz, q1, q2⟩ := hh
  by_cases hk2 : 2 ≤ k
  · exact op_repT pins st sl H _ _ v u Q I rx ry ⟨l, k, xs, rfl, rfl, hT, hne, hk2, h2, hz, q2 (by omega)⟩
  · cases rx
    obtain ⟨tk, rfl⟩ := ry
    obtain ⟨its, r, ⟨⟨cls, dd, data, sls⟩, ho, hc, n, hd⟩, hs⟩ := I.tuple hT
    simp only at hc hd
    subst hc hd
    have hne' : its ≠ [] := fun z => hne (by subst z; have := r.length; exact List.eq_nil_of_length_eq_zero this)
    have hi : its.toArray.isEmpty = false := by
      cases its with
      | nil => exact absurd rfl hne'
      | cons _ _ => rfl
    have c0 : (decide (k < -(2 ^ 63)) || decide (k ≥ 2 ^ 63)) = false := by rw [decide_eq_false (by omega), decide_eq_false (by omega)]; rfl
    by_cases hk1 : k = 1
    · subst hk1
      refine wpAny_binaryOp_repeat_ref (T := "tuple") (U := "int") (by decide) ⟨_, ho, rfl⟩ (fun s' => typeIs_int s' 1 tk) noFill_tuple_mul F.fills_int_mul F.slot_int_rmul repeat_tuple F.slot_int_index.lookup
        (call_meets F.slot_int_rmul (typeIs_int st 1 tk) F.entry_int_rmul (F.args_int_rmul_2 _ _) (int_rmul_tuple 1 tk l its.toArray n dd sls)
          ⟨ho, rfl, ⟨_, ho, rfl⟩, call_meets F.slot_tuple_mul ⟨_, ho, rfl⟩ F.entry_tuple_mul (F.args_tuple_mul_2 _ _) (tuple_mul_one l its.toArray n dd sls 1 tk c0 (by rw [hi]; rfl)) ⟨ho, ?_⟩⟩)
      exact ⟨.ref l, H, I, rfl, q1 rfl⟩
    · have e0 : k.toNat = 0 := by omega
      have c1 : (its.toArray.isEmpty || k == 1) = false := by rw [hi, Bool.false_or]; exact beq_eq_false_iff_ne.mpr hk1
      have c2 : (decide (k ≤ 0) || its.toArray.isEmpty) = true := by rw [decide_eq_true (by omega)]; rfl
      refine wpAny_binaryOp_repeat_ref (T := "tuple") (U := "int") (by decide) ⟨_, ho, rfl⟩ (fun s' => typeIs_int s' k tk) noFill_tuple_mul F.fills_int_mul F.slot_int_rmul repeat_tuple F.slot_int_index.lookup
        (call_meets F.slot_int_rmul (typeIs_int st k tk) F.entry_int_rmul (F.args_int_rmul_2 _ _) (int_rmul_tuple k tk l its.toArray n dd sls)
          ⟨ho, rfl, ⟨_, ho, rfl⟩, call_meets F.slot_tuple_mul ⟨_, ho, rfl⟩ F.entry_tuple_mul (F.args_tuple_mul_2 _ _) (tuple_mul_zero l its.toArray n dd sls k tk c0 c1 c2) ⟨ho, ?_⟩⟩)
      have q3 := q2 hk1 st.heap.objs.size (I.hok.fresh (Nat.le_refl _))
      rw [e0] at q3
      refine ⟨.ref st.heap.objs.size, _, I.laid (t' := st.toks) (o := .tup []) (fun b ob z => Heap.get?_push_of_some _ z) (Nat.le_refl _) ⟨Nat.zero_le _, [], .nil, IsTup.new _ _⟩, rfl, q3⟩
section
variable {X : Cx} {B : Bs} {a b c e elt tg iter : Expr} {es : List Expr} {pos : Pos} {wa wb wc we : TD} {ws : TDA} {wt wu : TDT} {wg : TDG} {wgs : TDGs} {K : PySem.W.Frag} {ix ix' : List Nat} {st : Stmt}
/-- * : ints, a tuple by a small number -/
def gMul : G2 := fun r1 r2 R => match r1, r2 with
  | .val (.int i), .val (.int j) => CMul i j ∧ R (.val (.int (i * j)))
  | .val (.tup l), .val (.int k) => l ≠ [] ∧ -1000 ≤ k ∧ k ≤ 1000 ∧ l.length ≤ 1000 ∧ R (.val (.tup (List.replicate k.toNat l).flatten))
  | _, _ => False
theorem snd_mul : SndO K B gMul (fun x y H Q => (rI CMul fun i j => .int (i * j)) x y H Q ∨ rRepA K x y H Q) := by
  intro G H σ ρ n τ v1 v2 r1 r2 R Q e hg k
  unfold gMul at hg
  split at hg
  · have h2 := e.topV
    have h1 := e.pop.topV
    cases h1
    cases h2
    exact .inl ⟨_, _, rfl, rfl, hg.1, k _ _ _ _ hg.2 (e.pop.pop.pushV (.int _))⟩
  · obtain ⟨hne, hk1, hk2, hl, hR⟩ := hg
    have h2 := e.topV
    have h1 := e.pop.topV
    cases h2
    cases h1 with
    | tup sq rl =>
      refine .inr ⟨_, _, _, rfl, rfl, SqT.of sq, fun z => hne (rl.nil_iff.mp z), hk1, hk2, by rw [rl.length]; exact hl, fun z => ?_, fun _ p hp => k _ _ _ _ hR (e.pop.pop.pushTup hp (rl.rep _))⟩
      subst z
      refine k _ _ _ _ hR (e.pop.pop.pushV (.tup sq ?_))
      simpa using rl
  · exact hg.elim
theorem de_mul (ha : DE X B a wa) (hb : DE X B b wb) : DE X B (.BinOp a .Mult b pos) (wOp gMul wa wb) := de_op snd_mul (op_mul.or op_repA) ha hb
/-! ### list(range(..)) -/
def wListR1 (w : TD) : TD := fun ρ n Q => w ρ n fun r ρ1 n1 => ∃ j : Nat, r = .val (.int j) ∧ j ≤ 16777216 ∧ Q (.new (rgD 0 j)) ρ1 n1
theorem de_listR1 {p p' pos' : Pos} (hc : X.calm = true) (hg : Gl X "list") (hm : X.mg "list" = none) (hg' : Gl X "range") (hm' : X.mg "range" = none) (ha : DE X B a wa)
    (na : starEach [a] X.env = (false, eval a X.env) :: starEach [] X.env := by rfl) (na' : starEach [.Call (.Name "range" p') [a] [] pos'] X.env = (false, eval (.Call (.Name "range" p') [a] [] pos') X.env) :: starEach [] X.env := by rfl) :
    DE X B (.Call (.Name "list" p) [.Call (.Name "range" p') [a] [] pos'] [] pos) (wListR1 wa) :=
  PE.imp (pe_listRg hc hg hm (prg_1 hg' hm' ha na) na') fun σ H Q ⟨G, ρ, n, τ, Q', e, hw, k⟩ => ⟨G, ρ, n, τ, _, e, hw, fun r ρ1 n1 v G1 H1 ⟨j, hr, hj, h1⟩ e1 => by
    subst hr
    have rv := e1.topV
    cases rv
    refine ⟨j, rfl, RgOk.of_le (by omega) (by omega) (by omega) (by omega), fun p hp => k _ _ _ _ _ _ h1 (e1.pop.pushNew hp ?_)⟩
    have : ((j : Int) - 0).toNat = j := by omega
    unfold rgV rgD
    rw [this]
    generalize List.range j = l
    induction l with
    | nil => exact .nil
    | cons x l ih => exact .cons (.int _) ih⟩
/-! ### zip -/
def zipD (xs ys : List D) : List D := List.zipWith (fun x y => D.tup [x, y]) xs ys
theorem zipD_get {xs ys : List D} {i : Nat} {d : D} (h : (zipD xs ys)[i]? = some d) : ∃ x y, xs[i]? = some x ∧ ys[i]? = some y ∧ d = .tup [x, y] := by
  unfold zipD at h
  rw [List.getElem?_zipWith] at h
  cases h1 : xs[i]? with
  | none => rw [h1] at h; simp at h
  | some x =>
    cases h2 : ys[i]? with
    | none => rw [h1, h2] at h; simp at h
    | some y => rw [h1, h2] at h; cases h; exact ⟨x, y, rfl, rfl, rfl⟩
def wiZip (ws : TDA) : TDI := fun ρ n Q => ws ρ n fun rs ρ1 n1 => ∃ r s, rs = [r, s] ∧ ((∃ x y, r = .val (.tup x) ∧ s = .val (.tup y) ∧ Q (zipD x y) ρ1 n1) ∨ ∃ x y, listOf r = some x ∧ listOf s = some y ∧ Q (zipD x y) ρ1 n1)
theorem EnvOk.tmAt2 {G0 G : Gh} {H0 H : Hp} {σ : L2.St} {ρ : List SV} {n : Nat} {τ τ' : List (V × RV)} {v v' : V} {d d' : D} (e : EnvOk K G0 H0 G H σ ρ n (τ ++ [(v, .val d), (v', .val d')] ++ τ')) : Rep K G H v d ∧ Rep K G H v' d' :=
  ⟨e.tm τ.length v (.val d) (by simp), e.tm (τ.length + 1) v' (.val d') (by simp)⟩
theorem di_zip {tpos : Pos} {elts : List Expr} {kk : Nat} (h : PI X (.Tuple elts kk tpos) iter (iZipA X.K (tDA X.K B ws))) : DI X B (.Tuple elts kk tpos) iter (wiZip ws) :=
  PI.imp h fun σ H R ⟨G, ρ, n, τ, Q', e, hw, k⟩ => ⟨G, ρ, n, τ, _, e, hw, fun rs ρ1 n1 vs G1 H1 ⟨r, s, hr, h1⟩ hl e1 => by
    subst hr
    obtain ⟨v, v', rfl⟩ := len2 hl
    rcases h1 with ⟨x, y, rfl, rfl, h1⟩ | ⟨x, y, hx, hy, h1⟩
    · have e2 : EnvOk X.K B.1 B.2 G1 H1 σ ρ1 n1 (τ ++ [(v, .val (.tup x)), (v', .val (.tup y))]) := e1
      obtain ⟨r1, r2⟩ := EnvOk.tmAt2 (τ' := []) (by rw [List.append_nil]; exact e2)
      cases r1 with
      | tup sq1 rl1 =>
        cases r2 with
        | tup sq2 rl2 =>
          refine ⟨_, _, _, _, rfl, .inr ⟨SqT.of sq1, SqT.of sq2, k _ _ _ [(_, .val (.tup x)), (_, .val (.tup y))] _ _ _ h1 (fun τ'' => ?_) e2⟩⟩
          intro G5 H5 σ5 ρ5 n5 i e5
          obtain ⟨r1, r2⟩ := e5.tmAt2
          cases r1 with
          | tup sq1 rl1 =>
            cases r2 with
            | tup sq2 rl2 =>
              replace sq1 := SqT.of (K := X.K) sq1
              replace sq2 := SqT.of (K := X.K) sq2
              refine ⟨fun hi => ⟨_, _, sq1, sq2, ?_⟩, fun d hd => ?_⟩
              · rw [rl1.length, rl2.length, hi]
                unfold zipD
                rw [List.length_zipWith]
                omega
              · obtain ⟨xd, yd, hx, hy, rfl⟩ := zipD_get hd
                obtain ⟨vx, hvx, rx⟩ := rl1.get hx
                obtain ⟨vy, hvy, ry⟩ := rl2.get hy
                refine ⟨⟨_, _, vx, vy, sq1, sq2, hvx, hvy⟩, fun z H' ⟨T, x', y', ez, nT, eH, f1, f2⟩ => ?_⟩
                subst ez eH
                have e1 := (f1 _ sq1).symm.trans hvx
                have e2 := (f2 _ sq2).symm.trans hvy
                cases e1
                cases e2
                exact ⟨_, e5.pushTup nT (.cons rx (.cons ry .nil))⟩
    · obtain ⟨G2, x2, e2, rl⟩ := EnvOk.freezeAll [r, s] [v, v'] τ G1 hl e1
      have hdx : dOf r = .lst x := by
        cases r with
        | newD t m => cases hx
        | new l => cases hx; rfl
        | val d => cases d <;> first | cases hx | skip
                   rfl
      have hdy : dOf s = .lst y := by
        cases s with
        | newD t m => cases hy
        | new l => cases hy; rfl
        | val d => cases d <;> first | cases hy | skip
                   rfl
      have e3 : EnvOk X.K B.1 B.2 G2 H1 σ ρ1 n1 (τ ++ [(v, .val (.lst x)), (v', .val (.lst y))]) := by
        have := e2.pushAll rl
        rw [show ([v, v'].zip (([r, s].map dOf).map RV.val)) = [(v, RV.val (dOf r)), (v', RV.val (dOf s))] from rfl, hdx, hdy] at this
        exact this
      obtain ⟨r1, r2⟩ := EnvOk.tmAt2 (τ' := []) (by rw [List.append_nil]; exact e3)
      cases r1 with
      | lst g1 sq1 rl1 =>
        cases r2 with
        | lst g2 sq2 rl2 =>
          refine ⟨_, _, _, _, rfl, .inl ⟨SqL.of sq1, SqL.of sq2, k _ _ _ [(_, .val (.lst x)), (_, .val (.lst y))] _ _ _ h1 (fun τ'' => ?_) e3⟩⟩
          intro G5 H5 σ5 ρ5 n5 i e5
          obtain ⟨r1, r2⟩ := e5.tmAt2
          cases r1 with
          | lst g1 sq1 rl1 =>
            cases r2 with
            | lst g2 sq2 rl2 =>
              refine ⟨fun hi => ⟨_, _, SqL.of sq1, SqL.of sq2, ?_⟩, fun d hd => ?_⟩
              · rw [rl1.length, rl2.length, hi]
                unfold zipD
                rw [List.length_zipWith]
                omega
              · obtain ⟨xd, yd, hx, hy, rfl⟩ := zipD_get hd
                obtain ⟨vx, hvx, rx⟩ := rl1.get hx
                obtain ⟨vy, hvy, ry⟩ := rl2.get hy
                refine ⟨⟨_, _, vx, vy, SqL.of sq1, SqL.of sq2, hvx, hvy⟩, fun z H' ⟨T, x', y', ez, nT, eH, f1, f2⟩ => ?_⟩
                subst ez eH
                have e1 := (f1 _ (SqL.of sq1)).symm.trans hvx
                have e2 := (f2 _ (SqL.of sq2)).symm.trans hvy
                cases e1
                cases e2
                exact ⟨_, e5.pushTup nT (.cons rx (.cons ry .nil))⟩⟩
end
/-! ### enumerate -/
theorem meets_enum1 {v : Value} {o : Obj} {P : Heap → Prop} (Bg : Begins v o P) :
    Meets (Builtin.«enumerate.__new__» ⟨[.type "enumerate", v], []⟩) (fun _ R s => P s.heap ∧
      R (.ok (.ret (.ref (s.heap.push o).objs.size))) { s with heap := (s.heap.push o).push { cls := .type "enumerate", data := .fields #[.none, .bool false, .ref s.heap.objs.size, rawInt 0, .none, .none] } }) :=
  .of_wp fun prog w A R s h => by
    obtain ⟨hp, g, d, tk, os⟩ := s
    obtain ⟨h1, h⟩ := h
    have hsub := sub_enumerate
    have q1 : ∀ {A' : Around} {E : Value → Shared → Prop} {Q : Value → Shared → Prop}, Q (.ref hp.objs.size) ⟨hp.push o, g, d, tk, os⟩ → wpAny (model prog w) A' (pyIter v) Q E ⟨hp, g, d, tk, os⟩ :=
      fun q => Bg.iter prog w _ _ ⟨hp, g, d, tk, os⟩ _ h1 q
    wp_walk using q1
    refine wpAny_stack_any fun stk => wpAny_pure ?_
    split
    · rename_i cc _ _ _ _ _
      cases (cc == Value.type "enumerate") <;> (wp_walk using q1; exact ⟨_, rfl, h⟩)
    · wp_walk using q1
      exact ⟨_, rfl, h⟩
theorem enum1 {prog : Program} {w : World} {A : Around} {E : Value → Shared → Prop} {s : Shared} {v : Value} {o : Obj} {P : Heap → Prop} {Q : Value → Shared → Prop} (Bg : Begins v o P) (h1 : P s.heap)
    (h : ∀ h', IsEnum h' (s.heap.objs.size + 1) s.heap.objs.size 0 .none → h'.get? s.heap.objs.size = some o → h'.objs.size = s.heap.objs.size + 2 →
      (∀ b ob, s.heap.get? b = some ob → h'.get? b = some ob) → Q (.ref (s.heap.objs.size + 1)) { s with heap := h' }) :
    wpAny (model prog w) A (call (.type "enumerate") [v]) Q E s := by
  refine callType_new F.called_enumerate (by decide) (F.typeCall_enumerate_1 _) (F.newCall_enumerate_1 _) (fun obj => F.args_object_init_2 obj _) F.entry_enumerate_new (meets_enum1 Bg) ⟨h1, ?_⟩
  have hz : (s.heap.push o).objs.size = s.heap.objs.size + 1 := Heap.size_push ..
  show _ ∧ _
  rw [hz]
  have he : IsEnum ((s.heap.push o).push { cls := .type "enumerate", data := .fields #[.none, .bool false, .ref s.heap.objs.size, rawInt 0, .none, .none] }) (s.heap.objs.size + 1) s.heap.objs.size 0 .none := by
    have := Heap.get?_push_size (s.heap.push o) (o := { cls := .type "enumerate", data := .fields #[.none, .bool false, .ref s.heap.objs.size, rawInt 0, .none, .none] }) rfl
    rw [hz] at this
    exact this
  exact ⟨⟨_, he, rfl⟩, h _ he (Heap.get?_push_of_some _ (Heap.get?_push_size _ Bg.free)) (by rw [Heap.size_push, hz]) fun b ob x => Heap.get?_push_of_some _ (Heap.get?_push_of_some _ x)⟩
/-- the tuple at a, each item in a new pair with its place -/
def ItE (K : PySem.W.Frag) (a : Addr) : It :=
  ⟨fun i H => ∃ (xs : List V) (x : V), SqT K H a xs ∧ xs[i]? = some x, fun i H v H' => ∃ T x, v = .ref T ∧ H T = none ∧ H' = upd H T (.tup [.int (i : Nat), x]) ∧ ∀ xs, SqT K H a xs → xs[i]? = some x, fun i H => ∃ xs : List V, SqT K H a xs ∧ xs.length = i⟩
theorem turn_enumT {P : Program} {w : World} {K : PySem.W.Frag} {elts : List Expr} {kk : Nat} {tpos : Pos} (a en it : Addr) :
    Turn P w K (.Tuple elts kk tpos) (ItE K a) [en, it] en (fun i h => (∃ old, IsEnum h en it ((i : Nat) : Int) old) ∧ h.IsTupleIter it a i ∧ en ≠ it) where
  mem := by simp
  obj := fun i h stt b hb => by
    obtain ⟨⟨old, he⟩, ⟨o, ho, hc, hd⟩, _⟩ := stt
    have e' : b = en ∨ b = it := by simpa using hb
    rcases e' with z | z
    · rw [z]; exact ⟨_, he, fun v q => nomatch q⟩
    · rw [z]; exact ⟨o, ho, fun v q => by rw [hd] at q; cases q⟩
  keep := fun i h h' stt k => let ⟨⟨old, he⟩, hi, hne⟩ := stt; ⟨⟨old, k en (by simp) _ he⟩, hi.at fun o q => k it (by simp) o q, hne⟩
  item := by
    intro X hP hw hK hc i pins s σ H E I hf stt hg
    subst hP hw hK
    obtain ⟨⟨old, he⟩, hit, hne⟩ := stt
    obtain ⟨xs, x, hq, hx⟩ := hg
    obtain ⟨its, rv, p, hz⟩ := I.tuple hq
    obtain ⟨u, hu, ru⟩ := rv.get hx
    have hel : en < s.heap.objs.size := Heap.lt_size he
    have hil : it < s.heap.objs.size := by obtain ⟨_, q, _⟩ := hit; exact Heap.lt_size q
    have hil' : i < its.length := (List.getElem?_eq_some_iff.mp hu).1
    have hat : a ≠ it := fun z => by
      obtain ⟨o1, q1, c1, _⟩ := p
      obtain ⟨o2, q2, c2, _⟩ := hit
      rw [z, q2] at q1
      cases q1
      rw [c1] at c2
      exact absurd c2 (by decide)
    have hae : en ≠ a := fun z => by
      obtain ⟨o1, q1, c1, _⟩ := p
      rw [← z, he] at q1
      cases q1
      exact absurd (Value.type.inj c1) (by decide)
    have hh : X.A.in1.handled = none := I.ok.hd hc
    refine wpAny_pyNext_enum_itemD (Draws.tuple (prog := X.prog) (w := X.w) hh it a hat its.toArray) he ⟨hit, p⟩ (by simpa using hil') hne (by simp [hne, hae]) fun y h' tk hy ho hst hT hsz hk => ?_
    have hy' : y = u := by
      have hy : its.toArray[i]? = some y := hy
      rw [List.getElem?_toArray, hu] at hy
      exact (Option.some.inj hy).symm
    subst hy'
    obtain ⟨hit', _⟩ := hst
    refine ⟨_, rfl, wpAny_letOwnedTupleGo_enum (s := { s with heap := h', toks := tk + 1 }) ho fun h'' he' sb => ?_⟩
    have hT2 : h''.get? s.heap.objs.size = some { cls := .type "tuple", data := .seq #[.int i tk, y] } := (sb.2 _ (Nat.ne_of_gt hel)).trans hT
    have new : ObjOk X.prog X.w (upd H s.heap.objs.size (.tup [.int (i : Nat), x])) h'' s.heap.objs.size (.tup [.int (i : Nat), x]) :=
      ⟨by show 2 ≤ sizeLine; decide, [.int i tk, y], .cons ⟨_, rfl⟩ (.cons ru .nil), ⟨_, hT2, rfl, _, rfl⟩⟩
    have I1 : Inv X pins σ (upd H s.heap.objs.size (.tup [.int (i : Nat), x])) { s with heap := h'', toks := tk + 1 } :=
      I.turnedNew (ch := [en, it]) (fun b ob hb q => (sb.2 b (fun z => hb (by simp [z]))).trans (hk b ob (fun z => hb (by simp [z])) (fun z => hb (by simp [z])) q)) hf (Nat.le_refl _) new
    refine ⟨.ref s.heap.objs.size, _, I1, rfl, ⟨_, x, rfl, I.hok.fresh (Nat.le_refl _), rfl, fun ys hys => by rw [I.tuple_inj hys hq]; exact hx⟩, ⟨⟨y, ?_⟩, hit'.at fun o q => (sb.2 it (Ne.symm hne)).trans q, hne⟩, fun b hb => ?_⟩
    · have e1 : ((i + 1 : Nat) : Int) = (i : Int) + 1 := by omega
      rw [e1]; exact he'
    · have hb' : b < s.heap.objs.size := by
        have e' : b = en ∨ b = it := by simpa using hb
        rcases e' with z | z
        · rw [z]; exact hel
        · rw [z]; exact hil
      rw [upd_ne (Nat.ne_of_lt hb')]
      exact (hf b hb).1
  done := by
    intro X hP hw hK hc i pins s σ H E I hf stt hg
    subst hP hw hK
    obtain ⟨⟨old, he⟩, hit, hne⟩ := stt
    obtain ⟨xs, hq, hx⟩ := hg
    obtain ⟨its, rv, p, hz⟩ := I.tuple hq
    obtain ⟨f0, f1, f2, f3, f4, f5⟩ := hf it (by simp)
    have hl := rv.length
    have hat : a ≠ it := fun z => by
      obtain ⟨o1, q1, c1, _⟩ := p
      obtain ⟨o2, q2, c2, _⟩ := hit
      rw [z, q2] at q1
      cases q1
      rw [c1] at c2
      exact absurd c2 (by decide)
    have hh : X.A.in1.handled = none := I.ok.hd hc
    subst hx
    have hsz : its.toArray.size = xs.length := by rw [List.size_toArray, hl]
    exact wpAny_pyNext_enum_endD (n := xs.length) (by rw [← hsz]; exact Draws.tuple (prog := X.prog) (w := X.w) hh it a hat its.toArray) he (show s.heap.IsTupleIter it a xs.length ∧ s.heap.IsTuple a its.toArray from ⟨hit, p⟩) fun h' eb => ⟨rfl, I.turned (t' := s.toks) (fun b o hb q => eb b o hb q) f0 f1 f3 f4 f5⟩
  self := fun A i s Q E stt h => let ⟨⟨_, he⟩, _⟩ := stt; wpAny_pyIter_enum he h
/-- a list or a tuple -/
def iEnA (K : PySem.W.Frag) (ta : TA) : TI := fun σ H R => ta σ H fun vs H1 => ∃ p xs, vs = [.ref p] ∧ ((SqL K H1 p xs ∧ R (Ite K p) H1) ∨ (SqT K H1 p xs ∧ R (ItE K p) H1))
theorem pi_enumA {X : Cx} {e : Expr} {ta : TA} {p pos tpos : Pos} {elts : List Expr} {kk : Nat} (hg : Gl X "enumerate") (hm : X.mg "enumerate" = none) (ha : PA X [e] ta) (hs : starEach [e] X.env = [(false, eval e X.env)] := by rfl) :
    PI X (.Tuple elts kk tpos) (.Call (.Name "enumerate" p) [e] [] pos) (iEnA X.K ta) := by
  refine ⟨fun pins st sl Hp0 R I0 hh => ?_⟩
  refine Call_ (ld_blt I0 hg hm boot_enumerate (PyProof.Rows.callWith_type1 (thn (ha.run pos pins st sl Hp0 _ I0 hh) fun us s1 ⟨vs, H1, I1, r1, q1⟩ => ?_) hs rfl))
  obtain ⟨l, xs, ex, q1⟩ := q1
  subst ex
  cases r1 with
  | cons r rr =>
    cases rr
    cases r
    have fp : ∀ b ∈ [s1.heap.objs.size + 1, s1.heap.objs.size], FpOk X pins H1 b := fun b hb => by
      have e' : b = s1.heap.objs.size + 1 ∨ b = s1.heap.objs.size := by simpa using hb
      have hle : s1.heap.objs.size ≤ b := by
        rcases e' with z | z
        · rw [z]; exact Nat.le_add_right _ _
        · rw [z]; exact Nat.le_refl _
      exact I1.fpOk hle (I1.hok.fresh hle)
    rcases q1 with ⟨hq, q⟩ | ⟨hq, q⟩
    · obtain ⟨its, rv, pl, hz⟩ := I1.list hq
      refine call_enumerate_list pl.isList fun h' he hit hsz hk => wpAny_pyIter_enum he ?_
      exact ⟨s1.heap.objs.size + 1, [s1.heap.objs.size + 1, s1.heap.objs.size], _, _, H1, rfl, I1.kept (t' := s1.toks) hk, turn_enum l _ _, ⟨⟨.none, he⟩, hit, Nat.succ_ne_self _⟩, fp, q⟩
    · obtain ⟨its, rv, pl, hz⟩ := I1.tuple hq
      refine enum1 (begins_tuple l its.toArray) (show s1.heap.IsTuple l its.toArray from pl) fun h' he hit hsz hk => wpAny_pyIter_enum he ?_
      exact ⟨s1.heap.objs.size + 1, [s1.heap.objs.size + 1, s1.heap.objs.size], _, _, H1, rfl, I1.kept (t' := s1.toks) hk, turn_enumT l _ _, ⟨⟨.none, he⟩, ⟨_, hit, rfl, rfl⟩, Nat.succ_ne_self _⟩, fp, q⟩
def enD (i : Nat) : List D → List D
  | [] => []
  | d :: ds => .tup [.int (i : Nat), d] :: enD (i + 1) ds
theorem enD_get : ∀ {ds : List D} {j i : Nat} {d : D}, (enD j ds)[i]? = some d → ∃ x, ds[i]? = some x ∧ d = .tup [.int ((j + i : Nat) : Int), x]
  | [], _, _, _, h => by simp [enD] at h
  | x :: ds, j, 0, d, h => by simp [enD] at h; exact ⟨x, rfl, h.symm⟩
  | x :: ds, j, i + 1, d, h => by
    simp only [enD, List.getElem?_cons_succ] at h
    obtain ⟨y, hy, e⟩ := enD_get h
    exact ⟨y, by simpa using hy, by rw [e, show j + 1 + i = j + (i + 1) by omega]⟩
theorem enD_length : ∀ {ds : List D} {j : Nat}, (enD j ds).length = ds.length
  | [], _ => rfl
  | x :: ds, j => by rw [enD, List.length_cons, List.length_cons, enD_length]
section
variable {X : Cx} {B : Bs} {a b c e elt tg iter : Expr} {es : List Expr} {pos : Pos} {wa wb wc we : TD} {ws : TDA} {wt wu : TDT} {wg : TDG} {wgs : TDGs} {K : PySem.W.Frag} {ix ix' : List Nat} {st : Stmt}
theorem itOk_enumL {p : Addr} {l : List D} {τ τ'' : List (V × RV)} : ItOk K B (Ite K p) (enD 0 l) (τ ++ [(.ref p, .val (.lst l))] ++ τ'') := fun G H σ ρ n i e => by
  have rv := e.tmAt
  cases rv with
  | lst g q rl =>
    refine ⟨fun hi => ⟨_, SqL.of q, by rw [rl.length, hi, enD_length]; exact Nat.le_refl _⟩, fun d hd => ?_⟩
    obtain ⟨x, hx, rfl⟩ := enD_get hd
    obtain ⟨v, hv, rep⟩ := rl.get hx
    refine ⟨⟨_, v, SqL.of q, hv⟩, fun z H' ⟨T, x', ez, nT, eH, f1⟩ => ?_⟩
    subst ez eH
    have e1 := (f1 _ (SqL.of q)).symm.trans hv
    cases e1
    rw [Nat.zero_add]
    exact ⟨_, e.pushTup nT (.cons (.int _) (.cons rep .nil))⟩
theorem itOk_enumT {p : Addr} {l : List D} {τ τ'' : List (V × RV)} : ItOk K B (ItE K p) (enD 0 l) (τ ++ [(.ref p, .val (.tup l))] ++ τ'') := fun G H σ ρ n i e => by
  have rv := e.tmAt
  cases rv with
  | tup q rl =>
    replace q := SqT.of (K := K) q
    refine ⟨fun hi => ⟨_, q, by rw [rl.length, hi, enD_length]⟩, fun d hd => ?_⟩
    obtain ⟨x, hx, rfl⟩ := enD_get hd
    obtain ⟨v, hv, rep⟩ := rl.get hx
    refine ⟨⟨_, v, q, hv⟩, fun z H' ⟨T, x', ez, nT, eH, f1⟩ => ?_⟩
    subst ez eH
    have e1 := (f1 _ q).symm.trans hv
    cases e1
    rw [Nat.zero_add]
    exact ⟨_, e.pushTup nT (.cons (.int _) (.cons rep .nil))⟩
def wiEn (ws : TDA) : TDI := fun ρ n Q => ws ρ n fun rs ρ1 n1 => ∃ r l, rs = [r] ∧ seqOf r = some l ∧ Q (enD 0 l) ρ1 n1
theorem di_enum {tpos : Pos} {elts : List Expr} {kk : Nat} (h : PI X (.Tuple elts kk tpos) iter (iEnA X.K (tDA X.K B ws))) : DI X B (.Tuple elts kk tpos) iter (wiEn ws) :=
  PI.imp h fun σ H R ⟨G, ρ, n, τ, Q', e, hw, k⟩ => ⟨G, ρ, n, τ, _, e, hw, fun rs ρ1 n1 vs G1 H1 ⟨r, l, hr, hs, h1⟩ hl e1 => by
    subst hr
    obtain ⟨v, rfl⟩ := len1 hl
    have e1 : EnvOk X.K B.1 B.2 G1 H1 σ ρ1 n1 (τ ++ [(v, r)]) := e1
    obtain ⟨G2, x2, e2⟩ := e1.freeze
    rw [frz_val] at e2
    have rv := e2.topV
    cases r with
    | newD t m => cases hs
    | new l' =>
      cases hs
      cases rv with
      | lst g q rl => exact ⟨_, _, rfl, .inl ⟨SqL.of q, k _ ρ1 n1 _ _ _ _ h1 (fun _ => itOk_enumL) e2⟩⟩
    | val d =>
      cases d with
      | lst l' => cases hs; cases rv with | lst g q rl => exact ⟨_, _, rfl, .inl ⟨SqL.of q, k _ ρ1 n1 _ _ _ _ h1 (fun _ => itOk_enumL) e2⟩⟩
      | tup l' => cases hs; cases rv with | tup q rl => exact ⟨_, _, rfl, .inr ⟨SqT.of q, k _ ρ1 n1 _ _ _ _ h1 (fun _ => itOk_enumT) e2⟩⟩
      | _ => cases hs⟩
/-! ### a, b = x, y where a tuple is made: new lists stay the names' own -/
theorem ds_par2c {i j : Nat} (h : PS X st (tAsg (tTup (tDA X.K B ws)) (gTup X.K 2 (gCons (gName i) (gCons (gName j) gNil))))) : DS X B st (wPar2 i j ws) :=
  PS.imp h fun D σ H ⟨G, ρ, n, τ, D', e, hw, k, _⟩ => ⟨G, ρ, n, τ, _, e, hw, fun rs ρ' n' vs G' H' ⟨r, s, hr, h1⟩ hl e' => by
    subst hr
    obtain ⟨v, v', rfl⟩ := len2 hl
    refine ⟨by show 2 ≤ sizeLine; decide, fun p hp => ⟨p, [v, v'], rfl, SqT.of upd_same, rfl, v, [v'], rfl, v', [], rfl, rfl, ?_⟩⟩
    have e1 := (zip2 e').alloc hp (.tup [v, v']) .free (by simp)
    obtain ⟨G2, e2⟩ := e1.assignAt (j := τ.length) (i := i) (v := v) (r := r) (by simp)
    obtain ⟨G3, e3⟩ := e2.assignAt (j := τ.length + 1) (i := j) (v := v') (r := s) (by simp)
    refine k _ _ _ G3 _ h1 (e3.sub fun m x hm => ?_)
    have hml := (List.getElem?_eq_some_iff.mp hm).1
    rw [List.getElem?_set_ne (by omega), List.getElem?_set_ne (by omega), List.append_assoc, List.getElem?_append_left hml]
    exact hm⟩
theorem ds_par3c {i j l : Nat} (h : PS X st (tAsg (tTup (tDA X.K B ws)) (gTup X.K 3 (gCons (gName i) (gCons (gName j) (gCons (gName l) gNil)))))) : DS X B st (wPar3 i j l ws) :=
  PS.imp h fun D σ H ⟨G, ρ, n, τ, D', e, hw, k, _⟩ => ⟨G, ρ, n, τ, _, e, hw, fun rs ρ' n' vs G' H' ⟨r, s, t, hr, h1⟩ hl e' => by
    subst hr
    obtain ⟨v, v', v'', rfl⟩ := len3 hl
    refine ⟨by show 3 ≤ sizeLine; decide, fun p hp => ⟨p, [v, v', v''], rfl, SqT.of upd_same, rfl, v, [v', v''], rfl, v', [v''], rfl, v'', [], rfl, rfl, ?_⟩⟩
    have e1 := (zip3 e').alloc hp (.tup [v, v', v'']) .free (by simp)
    obtain ⟨G2, e2⟩ := e1.assignAt (j := τ.length) (i := i) (v := v) (r := r) (by simp)
    obtain ⟨G3, e3⟩ := e2.assignAt (j := τ.length + 1) (i := j) (v := v') (r := s) (by simp)
    obtain ⟨G4, e4⟩ := e3.assignAt (j := τ.length + 2) (i := l) (v := v'') (r := t) (by simp)
    refine k _ _ _ G4 _ h1 (e4.sub fun m x hm => ?_)
    have hml := (List.getElem?_eq_some_iff.mp hm).1
    rw [List.getElem?_set_ne (by omega), List.getElem?_set_ne (by omega), List.getElem?_set_ne (by omega), List.getElem?_append_left hml]
    exact hm⟩
/-! ### dicts that nobody looks into -/
def wDct : TD := fun ρ n Q => Q (.val .dct) ρ n
theorem EnvOk.pushDct {G0 G : Gh} {H0 H : Hp} {σ : L2.St} {ρ : List SV} {n : Nat} {τ : List (V × RV)} {p : Addr} {kvs : List (Key × V)} (e : EnvOk K G0 H0 G H σ ρ n τ) (hp : H p = none) : EnvOk K G0 H0 (updG G p .fro) (upd H p (.dK kvs)) σ ρ n (τ ++ [(.ref p, .val .dct)]) :=
  (e.alloc hp (.dK kvs) .fro (by simp)).pushV (.dct updG_same upd_same (.inl ⟨_, rfl⟩))
theorem de_dict0 (h : PE X e tDNewK) : DE X B e wDct := PE.imp h fun σ H Q ⟨G, ρ, n, τ, Q', e, hw, k⟩ => fun p hp => k _ _ _ _ _ _ hw (e.pushDct hp)
def isSet : SV → Bool
  | .un => false
  | _ => true
def wDct1 (i : Nat) : TD := fun ρ n Q => (∃ s, ρ[i]? = some s ∧ isSet s = true) ∧ Q (.val .dct) ρ n
theorem slot_set {G : Gh} {H : Hp} {o : Option (Option V)} {i : Nat} {s : SV} (h : SlotOk K G H o i s) (hs : isSet s = true) : ∃ v, o = some (some v) := by
  cases s with
  | un => cases hs
  | val d => obtain ⟨v, e, _⟩ := h; exact ⟨v, e⟩
  | own l => obtain ⟨a, vs, e, _⟩ := h; exact ⟨_, e⟩
  | ownD t m => obtain ⟨a, vs, e, _⟩ := h; exact ⟨_, e⟩
  | err a d nms ds => exact ⟨_, h.1⟩
theorem de_dict1 {i : Nat} {k : Int} (h : PE X e (tDisp [(tC (.int k), tVar i)])) : DE X B e (wDct1 i) := PE.imp h fun σ H Q ⟨G, ρ, n, τ, Q', e, ⟨⟨s, hs, hi⟩, hw⟩, kk⟩ => fun p hp => by
  obtain ⟨v, hv⟩ := slot_set (e.sl i s hs) hi
  refine ⟨v, hv, upd_same, [(Sum.inl k, v)], rfl, by rw [List.length_singleton]; decide, ?_⟩
  rw [upd_upd]
  exact kk _ _ _ _ _ _ hw (e.pushDct hp)
/-! ### a call without arguments -/
def wCall0 (c : Ctr) : TD := fun ρ n Q => c [] n fun d n2 => Q (.val d) ρ n2
theorem de_call0 {c : Ctr} {E : XK} (h : PE X e (tCall (spC X.K 0 c) [] E tNil)) : DE X B e (wCall0 c) :=
  PE.imp h fun σ H Q ⟨G, ρ, n, τ, Q', e, hw, k⟩ => by
    obtain ⟨g0, x3⟩ := e.out
    refine ⟨outG G, [], n, _, g0, rfl, .nil, hw, fun d n2 v G' H' h2 gr bg fh rv => ?_⟩
    obtain ⟨e3, x4⟩ := e.back gr bg fh
    exact k _ _ _ _ _ _ h2 (e3.pushV (rv.mono x4))
end
end Ly

namespace Ly
open PySem PySem.Spec PyProof.Rows L2
/-! ### repr -/
def rRepr (K : PySem.W.Frag) : List V → Hp → VK → Prop := fun xs H Q => ∃ v p, xs = [v] ∧ Dp K H v p ∧ p.showable = true ∧ p.hasDict = false ∧ p.depth ≤ 60 ∧ p.shown.length ≤ sizeLine ∧ Q (.str p.shown) H
theorem call_reprD {X : Cx} (hg : X.A.guards = some []) (hu : X.A.units + 64 < cLine) : CallR X (.builtin "repr") (rRepr X.K) := by
  intro pins st sl H xs us Q I r hh
  obtain ⟨v, p, rfl, hd, hs, hnd, hdep, hz, q⟩ := hh
  obtain ⟨u, rfl, ru⟩ := vals1 r
  obtain ⟨as, rd⟩ := Dp.reads I p v u hd ru
  cases hd with
  | non => cases ru; exact PySem.P.repr_of_none ⟨.str _, H, I.tok _, ⟨_, rfl⟩, by simpa [PyData.shown] using q⟩
  | bl b => cases ru; exact PySem.P.repr_of_bool ⟨.str _, H, I.tok _, ⟨_, rfl⟩, by cases b <;> simpa [PyData.shown] using q⟩
  | int i => obtain ⟨t, rfl⟩ := ru; exact PySem.P.repr_of_int (by simpa [PyData.showable] using hs) ⟨.str _, H, I.tok _, ⟨_, rfl⟩, by simpa [PyData.shown] using q⟩
  | str x => obtain ⟨t, rfl⟩ := ru; exact PySem.P.repr_of_str ⟨.str _, H, I.tok _, ⟨_, rfl⟩, by simpa [PyData.shown] using q⟩ (by simpa [PyData.shown] using hz)
  | lst hs' ha =>
    cases ru
    exact repr_of_reads' rd hs (PyData.noDict_hsm hnd) hg (by omega) (fun _ _ e => e) (fun h' u tk hk => ⟨.str _, H, I.kept (h' := h') (t' := tk) hk, ⟨_, rfl⟩, q⟩) hz
  | tup hs' ha =>
    cases ru
    exact repr_of_reads' rd hs (PyData.noDict_hsm hnd) hg (by omega) (fun _ _ e => e) (fun h' u tk hk => ⟨.str _, H, I.kept (h' := h') (t' := tk) hk, ⟨_, rfl⟩, q⟩) hz
section
variable {B : Bs} {K : PySem.W.Frag}
/-- what repr may be asked of here -/
def shows (p : PyData) : Prop := p.showable = true ∧ p.hasDict = false ∧ p.depth ≤ 60 ∧ p.shown.length ≤ sizeLine
def gRepr : G1 := fun rs R => ∃ r p, rs = [r] ∧ toPy (dOf r) = some p ∧ shows p ∧ R (.val (.str p.shown))
theorem snd_repr : SndC K B gRepr (rRepr K) := by
  rintro G H σ ρ n τ vs rs R Q e hl ⟨r, p, rfl, hp, ⟨h1, h2, h3, h4⟩, hR⟩ k
  obtain ⟨v, rfl⟩ := len1 hl
  have e : EnvOk K B.1 B.2 G H σ ρ n (τ ++ [(v, r)]) := e
  exact ⟨v, p, rfl, e.top.dp hp, h1, h2, h3, h4, k _ _ _ _ hR (e.pop.pushV (.str _))⟩
end
end Ly

namespace Ly
open PySem PySem.Spec PyProof.Rows L2
/-! ### dicts that a name owns: keys ints and texts, or tuples of such -/
def kD : Key → D
  | .inl i => .int i
  | .inr x => .str x
def keysOf : List D → Option (List Key)
  | [] => some []
  | .int i :: r => (keysOf r).map (.inl i :: ·)
  | .str x :: r => (keysOf r).map (.inr x :: ·)
  | _ :: _ => none
def dkey (t : Bool) (d : D) : Option (List Key) := match t, d with
  | false, .int i => some [.inl i]
  | false, .str x => some [.inr x]
  | true, .tup ds => keysOf ds
  | _, _ => none
def valD (m : List (List Key × D)) (k : List Key) : Option D := (m.find? fun p => decide (p.1 = k)).map (·.2)
def putD (m : List (List Key × D)) (k : List Key) (d : D) : List (List Key × D) :=
  if (m.any fun p => decide (p.1 = k)) = true then m.map (fun p => if p.1 = k then (p.1, d) else p) else m ++ [(k, d)]
section
variable {K : PySem.W.Frag} {G G0 G' : Gh} {H H0 H' : Hp} {m : List (List Key × D)} {vs : List (List Key × V)} {k : List Key} {v : V} {d : D}
theorem keys_rep : ∀ {ds : List D} {ws : List V} {ks : List Key}, RepL K G H ws ds → keysOf ds = some ks → ws = ks.map kV
  | [], _, _, .nil, e => by cases e; rfl
  | d :: ds, _, _, .cons r t, e => by
    cases d with
    | int i =>
      simp only [keysOf] at e
      cases h : keysOf ds with
      | none => rw [h] at e; cases e
      | some z => rw [h] at e; cases e; cases r; rw [keys_rep t h]; rfl
    | str i =>
      simp only [keysOf] at e
      cases h : keysOf ds with
      | none => rw [h] at e; cases e
      | some z => rw [h] at e; cases e; cases r; rw [keys_rep t h]; rfl
    | _ => cases e
theorem RepM.val : ∀ {vs : List (List Key × V)} {m : List (List Key × D)}, RepM K G H vs m → (∀ d, valD m k = some d → ∃ v, valV vs k = some v ∧ Rep K G H v d) ∧ (valV vs k).isSome = (valD m k).isSome
  | _, _, .nil => ⟨fun d e => (by cases e), rfl⟩
  | _, _, .cons (k := k') (d := d') r t => by
    by_cases h : k' = k
    · have e : ∀ ds, valD ((k', d') :: ds) k = some d' := fun ds => by unfold valD; rw [List.find?_cons, decide_eq_true h]; rfl
      rw [valV_pos h, e]
      exact ⟨fun d q => by cases q; exact ⟨_, rfl, r⟩, rfl⟩
    · have e : ∀ ds, valD ((k', d') :: ds) k = valD ds k := fun ds => by unfold valD; rw [List.find?_cons, decide_eq_false h]
      rw [valV_neg h, e]
      exact RepM.val t
theorem any_valD (k : List Key) : ∀ m : List (List Key × D), (m.any fun p => decide (p.1 = k)) = (valD m k).isSome
  | [] => rfl
  | p :: r => by
    by_cases h : p.1 = k
    · unfold valD; rw [List.any_cons, List.find?_cons, decide_eq_true h]; rfl
    · unfold valD; rw [List.any_cons, List.find?_cons, decide_eq_false h, Bool.false_or]; exact any_valD k r
theorem RepM.app : ∀ {vs : List (List Key × V)} {m : List (List Key × D)}, RepM K G H vs m → Rep K G H v d → RepM K G H (vs ++ [(k, v)]) (m ++ [(k, d)])
  | _, _, .nil, rv => .cons rv .nil
  | _, _, .cons r t, rv => .cons r (t.app rv)
theorem RepM.upd (rv : Rep K G H v d) : ∀ {vs : List (List Key × V)} {m : List (List Key × D)}, RepM K G H vs m → RepM K G H (vs.map fun p => if p.1 = k then (p.1, v) else p) (m.map fun p => if p.1 = k then (p.1, d) else p)
  | _, _, .nil => .nil
  | _, _, .cons (k := k') r t => by
    rw [List.map_cons, List.map_cons]
    by_cases h : k' = k
    · rw [if_pos h, if_pos h]; exact .cons rv (t.upd rv)
    · rw [if_neg h, if_neg h]; exact .cons r (t.upd rv)
theorem RepM.put (h : RepM K G H vs m) (rv : Rep K G H v d) : RepM K G H (putK vs k v) (putD m k d) := by
  unfold putK putD
  rw [valV_any, any_valD, (h.val (k := k)).2]
  split
  · exact h.upd rv
  · exact h.app rv
theorem val_one (k : Key) : ∀ vs : List (Key × V), valV (vs.map fun p => ([p.1], p.2)) [k] = valV vs k
  | [] => rfl
  | p :: r => by
    rw [List.map_cons]
    by_cases h : p.1 = k
    · rw [valV_pos h, valV_pos (by rw [h])]
    · rw [valV_neg h, valV_neg (by simpa using h)]; exact val_one k r
theorem put_one (k : Key) (v : V) (vs : List (Key × V)) : putK (vs.map fun p => ([p.1], p.2)) [k] v = (putK vs k v).map fun p => ([p.1], p.2) := by
  unfold putK
  rw [valV_any, valV_any, val_one]
  split
  · rw [List.map_map, List.map_map]
    refine List.map_congr_left fun p _ => ?_
    by_cases h : p.1 = k
    · simp [h]
    · simp [h]
  · simp
/-- what the dict holds there -/
theorem OwnD.get {t : Bool} {u : HO} {a : Addr} {y : V} {dk : D} (h : OwnD K G H t u m) (ha : H a = some u) (hk : dkey t dk = some k) (ry : Rep K G H y dk) :
    ∃ o, DGet H a y o ∧ (∀ d, valD m k = some d → ∃ v, o = some v ∧ Rep K G H v d) ∧ o.isSome = (valD m k).isSome := by
  cases t with
  | true =>
    obtain ⟨vs, rfl, r⟩ := h
    cases dk with
    | tup ds =>
      cases ry with
      | tup q rl =>
        have e := keys_rep rl hk
        rw [e] at q
        exact ⟨_, DGet.t ha q, (r.val (k := k)).1, (r.val (k := k)).2⟩
    | _ => cases hk
  | false =>
    obtain ⟨vs, rfl, r⟩ := h
    have one : ∀ (kk : Key), y = kV kk → k = [kk] → ∃ o, DGet H a y o ∧ (∀ d, valD m k = some d → ∃ v, o = some v ∧ Rep K G H v d) ∧ o.isSome = (valD m k).isSome := by
      rintro kk rfl rfl
      have := r.val (k := [kk])
      rw [val_one] at this
      exact ⟨_, DGet.k ha, this.1, this.2⟩
    cases dk with
    | int i => cases hk; cases ry; exact one (.inl i) rfl rfl
    | str i => cases hk; cases ry; exact one (.inr i) rfl rfl
    | _ => cases hk
theorem OwnD.len {t : Bool} {u : HO} (h : OwnD K G H t u m) : (∃ vs, u = .dT vs ∧ vs.length = m.length) ∨ ∃ vs, u = .dK vs ∧ vs.length = m.length := by
  cases t with
  | true => obtain ⟨vs, e, r⟩ := h; exact .inl ⟨vs, e, r.length⟩
  | false => obtain ⟨vs, e, r⟩ := h; exact .inr ⟨vs, e, by rw [← r.length, List.length_map]⟩
theorem OwnD.put {t : Bool} {u : HO} {a : Addr} {y : V} {dk : D} (h : OwnD K G H t u m) (ha : H a = some u) (hk : dkey t dk = some k) (ry : Rep K G H y dk) (rv : Rep K G H v d) (hl : m.length < sizeLine) :
    ∃ u', DPut H a y v (upd H a u') ∧ OwnD K G H t u' (putD m k d) := by
  cases t with
  | true =>
    obtain ⟨vs, rfl, r⟩ := h
    cases dk with
    | tup ds =>
      cases ry with
      | tup q rl =>
        have e := keys_rep rl hk
        rw [e] at q
        exact ⟨_, DPut.t ha q (by rw [r.length]; exact hl), _, rfl, r.put rv⟩
    | _ => cases hk
  | false =>
    obtain ⟨vs, rfl, r⟩ := h
    have hl' : vs.length < sizeLine := by rw [← r.length, List.length_map] at hl; exact hl
    have one : ∀ (kk : Key), y = kV kk → k = [kk] → ∃ u', DPut H a y v (upd H a u') ∧ OwnD K G H false u' (putD m k d) := by
      rintro kk rfl rfl
      have := r.put (k := [kk]) rv
      rw [put_one] at this
      exact ⟨_, DPut.k ha hl', _, rfl, this⟩
    cases dk with
    | int i => cases hk; cases ry; exact one (.inl i) rfl rfl
    | str i => cases hk; cases ry; exact one (.inr i) rfl rfl
    | _ => cases hk
theorem OwnD.notT {t : Bool} {u : HO} (h : OwnD K G H t u m) : (∀ xs, u ≠ .tup xs) ∧ (∀ o w, u ≠ .frz o w) := by
  rcases h.isD with ⟨kvs, rfl⟩ | ⟨kvs, rfl⟩
  · exact ⟨fun _ z => (by cases z), fun _ _ z => (by cases z)⟩
  · exact ⟨fun _ z => (by cases z), fun _ _ z => (by cases z)⟩
/-- a name's own dict is changed -/
theorem EnvOk.mutD {σ : L2.St} {ρ : List SV} {n : Nat} {τ : List (V × RV)} {i : Nat} {t : Bool} {a : Addr} {u u' : HO} {m' : List (List Key × D)} (e : EnvOk K G0 H0 G H σ ρ n τ) (h : ρ[i]? = some (.ownD t m)) (ea : σ[i]? = some (some (.ref a))) (g : G a = .slot i) (ha : H a = some u)
    (ow : OwnD K G H t u m) (ow' : OwnD K G H t u' m') : Ext G H G (upd H a u') ∧ EnvOk K G0 H0 G (upd H a u') σ (ρ.set i (.ownD t m')) n τ := by
  have h0 := e.notIn (.inl ⟨i, g⟩)
  have nt := ow.notT
  have x : Ext G H G (upd H a u') := by
    refine ⟨fun c q => ⟨q, fun w z => ?_⟩, fun c xs q => ?_, fun c ob w q => ?_, fun _ _ q => q⟩
    · rw [upd_ne (fun y => by subst y; rw [q] at g; cases g)]; exact z
    · rw [upd_ne (fun y => by subst y; rw [q] at ha; cases ha; exact nt.1 _ rfl)]; exact q
    · rw [upd_ne (fun y => by subst y; rw [q] at ha; cases ha; exact nt.2 _ _ rfl)]; exact q
  refine ⟨x, ⟨fun c w q h1 h2 => ?_, e.gr.bagd, e.gr.bagl, fun c xs q => x.tup c xs (e.gr.tup c xs q), fun c ob w q => x.frz c ob w (e.gr.frz c ob w q)⟩, e.ns, e.nt, fun c b q => ?_, fun c q => ?_, by rw [List.length_set]; exact e.ln, fun j s hs => ?_, fun j v' r' hh => (e.tm j v' r' hh).mono x fun c vs g' q => ⟨g', ?_⟩⟩
  · have hc : c ≠ a := fun z => by subst z; rw [h0] at q; cases q
    rw [upd_ne hc]; exact e.gr.keep c w q h1 h2
  · obtain ⟨gb, far, s, t, hc, hb, z⟩ := e.bg c b q
    refine ⟨gb, far, s, t, by rw [upd_ne (fun y => by subst y; rw [q] at g; cases g)]; exact hc, by rw [upd_ne (fun y => by subst y; rw [gb] at g; cases g)]; exact hb, z⟩
  · by_cases hc : c = a
    · subst hc; rw [upd_same] at q; cases q
    · rw [upd_ne hc] at q; exact e.fh c q
  · by_cases hj : j = i
    · subst hj
      have hl : j < ρ.length := (List.getElem?_eq_some_iff.mp h).1
      rw [List.getElem?_set_self hl] at hs
      cases hs
      exact ⟨a, u', ea, g, upd_same, ow'.mono x⟩
    · rw [List.getElem?_set_ne (Ne.symm hj)] at hs
      refine (e.sl j s hs).mono x fun c vs g' q => ⟨g', ?_⟩
      rw [upd_ne (fun y => by subst y; rw [g] at g'; cases g'; exact hj rfl)]; exact q
  · rw [upd_ne (fun y => by subst y; rw [g] at g'; cases g')]; exact q
end
section
variable {X : Cx} {B : Bs} {a b c e o i : Expr} {es : List Expr} {pos pos' : Pos} {wa wb wc : TD} {ws : TDA} {wt : TDT} {j : Nat}
def wDNew (t : Bool) : TD := fun ρ n Q => Q (.newD t []) ρ n
theorem de_dnewT : DE X B (.Dict [] [] pos) (wDNew true) := PE.imp pe_dnewT fun σ H Q ⟨G, ρ, n, τ, Q', e, hw, k⟩ => fun p hp =>
  k _ _ _ _ _ _ hw ((e.alloc hp (.dT []) (.tmp τ.length) (by simp)).push ⟨p, _, rfl, updG_same, upd_same, [], rfl, .nil⟩)
theorem de_dnewK : DE X B (.Dict [] [] pos) (wDNew false) := PE.imp pe_dnewK fun σ H Q ⟨G, ρ, n, τ, Q', e, hw, k⟩ => fun p hp =>
  k _ _ _ _ _ _ hw ((e.alloc hp (.dK []) (.tmp τ.length) (by simp)).push ⟨p, _, rfl, updG_same, upd_same, [], rfl, .nil⟩)
def isOwnD : SV → Bool
  | .ownD _ _ => true
  | _ => false
theorem isOwnD_iff {s : SV} (h : isOwnD s = true) : ∃ t m, s = .ownD t m := by
  cases s with
  | ownD t m => exact ⟨_, _, rfl⟩
  | _ => cases h
def wDGet (j : Nat) (wb : TD) : TD := fun ρ n Q => (∃ s, ρ[j]? = some s ∧ isOwnD s = true) ∧ wb ρ n fun r ρ1 n1 => ∃ dk t m k d, r = .val dk ∧ ρ1[j]? = some (.ownD t m) ∧ dkey t dk = some k ∧ valD m k = some d ∧ Q (.val d) ρ1 n1
theorem de_dget (hu : X.A.units + 1 < cLine) (ho : PE X o (tVar j)) (hi : DE X B i wb) (hs : NoSl i) : DE X B (.Subscript o i pos) (wDGet j wb) :=
  PE.imp (pe_dget hu ho hi hs) fun σ H Q ⟨G, ρ, n, τ, Q', e, ⟨⟨s, hs, hd⟩, hw⟩, k⟩ => by
    obtain ⟨t0, m0, rfl⟩ := isOwnD_iff hd
    obtain ⟨a0, u0, ea0, _⟩ := e.sl j _ hs
    refine ⟨_, ea0, G, ρ, n, τ, _, e, hw, fun r ρ1 n1 v G1 H1 ⟨dk, t, m, kk, d, hr, hj, hk, hv, hq⟩ e1 => ?_⟩
    subst hr
    obtain ⟨a, u, ea, g, ha, ow⟩ := e1.sl j _ hj
    cases ea0.symm.trans ea
    obtain ⟨o, hg, h1, h2⟩ := ow.get ha hk e1.topV
    obtain ⟨v', rfl, rv⟩ := h1 d hv
    exact ⟨_, v', rfl, hg, k _ _ _ _ _ _ hq (e1.pop.pushV rv)⟩
def wDIn (neg : Bool) (j : Nat) (wb : TD) : TD := fun ρ n Q => wb ρ n fun r ρ1 n1 => ∃ dk t m k, r = .val dk ∧ ρ1[j]? = some (.ownD t m) ∧ dkey t dk = some k ∧ Q (.val (.bl (xor neg (valD m k).isSome))) ρ1 n1
theorem tDIn_of {K : PySem.W.Frag} {σ : L2.St} {H : Hp} {Q : VK} (h : tD K B (wDIn false j wb) σ H Q) : tDIn (tD K B wb) (tVar j) σ H Q := by
  obtain ⟨G, ρ, n, τ, Q', e, hw, k⟩ := h
  refine ⟨G, ρ, n, τ, _, e, hw, fun r ρ1 n1 v G1 H1 ⟨dk, t, m, kk, hr, hj, hk, hq⟩ e1 => ?_⟩
  subst hr
  obtain ⟨a, u, ea, g, ha, ow⟩ := e1.sl j _ hj
  obtain ⟨o, hg, h1, h2⟩ := ow.get ha hk e1.topV
  refine ⟨_, ea, _, o, rfl, hg, ?_⟩
  rw [h2]
  rw [Bool.false_xor] at hq
  exact k _ _ _ _ _ _ hq (e1.pop.pushV (.bl _))
theorem tDNotIn_of {K : PySem.W.Frag} {σ : L2.St} {H : Hp} {Q : VK} (h : tD K B (wDIn true j wb) σ H Q) : tDNotIn (tD K B wb) (tVar j) σ H Q := by
  obtain ⟨G, ρ, n, τ, Q', e, hw, k⟩ := h
  refine ⟨G, ρ, n, τ, _, e, hw, fun r ρ1 n1 v G1 H1 ⟨dk, t, m, kk, hr, hj, hk, hq⟩ e1 => ?_⟩
  subst hr
  obtain ⟨a, u, ea, g, ha, ow⟩ := e1.sl j _ hj
  obtain ⟨o, hg, h1, h2⟩ := ow.get ha hk e1.topV
  refine ⟨_, ea, _, o, rfl, hg, ?_⟩
  rw [h2]
  rw [Bool.true_xor] at hq
  exact k _ _ _ _ _ _ hq (e1.pop.pushV (.bl _))
theorem de_din (hu : X.A.units + 1 < cLine) (ho : PE X o (tVar j)) (hi : DE X B i wb) (hm : behindInMarks .In o = false := by rfl) : DE X B (.Compare i [.In] [o] pos) (wDIn false j wb) := PE.imp (pe_cmp (pc_din hu hi ho) hm) fun _ _ _ h => tDIn_of h
theorem de_dnin (hu : X.A.units + 1 < cLine) (ho : PE X o (tVar j)) (hi : DE X B i wb) (hm : behindInMarks .NotIn o = false := by rfl) : DE X B (.Compare i [.NotIn] [o] pos) (wDIn true j wb) := PE.imp (pe_cmp (pc_dnotin hu hi ho) hm) fun _ _ _ h => tDNotIn_of h
theorem dt_din (hu : X.A.units + 1 < cLine) (ho : PE X o (tVar j)) (hi : DE X B i wb) (hm : behindInMarks .In o = false := by rfl) : DT X B (.Compare i [.In] [o] pos) (wTst (wDIn false j wb)) := PT.imp (pt_cmp (pc_din hu hi ho) hm) fun _ _ _ h => tTest_of (fun _ _ _ h => tDIn_of h) h
theorem dt_dnin (hu : X.A.units + 1 < cLine) (ho : PE X o (tVar j)) (hi : DE X B i wb) (hm : behindInMarks .NotIn o = false := by rfl) : DT X B (.Compare i [.NotIn] [o] pos) (wTst (wDIn true j wb)) := PT.imp (pt_cmp (pc_dnotin hu hi ho) hm) fun _ _ _ h => tTest_of (fun _ _ _ h => tDNotIn_of h) h
/-- d[k] = v -/
def wDPut (j : Nat) (wk wv : TD) : TDS := fun E ρ n => wv ρ n fun r ρ1 n1 => (∃ s, ρ1[j]? = some s ∧ isOwnD s = true) ∧ wk ρ1 n1 fun rk ρ2 n2 => ∃ dk t m k, rk = .val dk ∧ ρ2[j]? = some (.ownD t m) ∧ dkey t dk = some k ∧ m.length < sizeLine ∧ E.nx (ρ2.set j (.ownD t (putD m k (dOf r)))) n2
theorem ds_dput {st : Stmt} {wk wv : TD} (h : PS X st (sDPut (tVar j) (tD X.K B wk) (tD X.K B wv))) : DS X B st (wDPut j wk wv) :=
  PS.imp h fun D σ H ⟨G, ρ, n, τ, D', e, hw, kx, _⟩ => ⟨G, ρ, n, τ, _, e, hw, fun r ρ1 n1 v G1 H1 ⟨⟨s, hs, hd⟩, h1⟩ e1 => by
    obtain ⟨t0, m0, rfl⟩ := isOwnD_iff hd
    obtain ⟨a0, u0, ea0, _⟩ := e1.sl j _ hs
    obtain ⟨G2, x2, e2⟩ := e1.freeze
    rw [frz_val] at e2
    refine ⟨_, ea0, G2, ρ1, n1, _, _, e2, h1, fun rk ρ2 n2 vk G3 H3 ⟨dk, t, m, kk, hr, hj, hk, hl, hq⟩ e3 => ?_⟩
    subst hr
    obtain ⟨a, u, ea, g, ha, ow⟩ := e3.sl j _ hj
    cases ea0.symm.trans ea
    have rv : Rep X.K G3 H3 v (dOf r) := e3.top2
    obtain ⟨u', hp, ow'⟩ := ow.put ha hk e3.topV rv hl
    obtain ⟨x4, e4⟩ := e3.mutD hj ea g ha ow ow'
    exact ⟨_, _, rfl, hp, kx _ _ _ _ _ hq e4.pop.pop⟩⟩
end
end Ly

namespace Ly
open PySem PySem.Spec PyProof.Rows L2
theorem svOf_newD {t : Bool} {m : List (List Key × D)} : svOf (.newD t m) = .ownD t m := rfl
theorem key_pair {a b : Int} : dkey true (.tup [.int a, .int b]) = some [.inl a, .inl b] := rfl
section
variable {X : Cx} {B : Bs} {a b c e k v : Expr} {es : List Expr} {pos : Pos} {wa wb wc wk wv : TD} {ws : TDA} {wt : TDT} {body : List Stmt} {ws' : TDS}
/-- a statement that is never come to -/
def wNever : TDS := fun _ _ _ => False
theorem ds_never {st : Stmt} : DS X B st wNever := ⟨fun _ _ _ _ _ _ ⟨_, _, _, _, _, _, hw, _⟩ => hw.elim⟩
/-! ### while -/
def wWhile (wc : TDT) (wb : TDS) : TDS := fun E ρ n => ∃ W : Nat → List SV → Nat → Prop, (∃ m, W m ρ n) ∧ ∀ m ρ n, W m ρ n →
  wc ρ n fun b ρ1 n1 => if b = true then wb { nx := fun ρ n => ∃ m', m' < m ∧ W m' ρ n, ct := fun ρ n => ∃ m', m' < m ∧ W m' ρ n, bk := E.nx, rt := E.rt } ρ1 n1 else E.nx ρ1 n1
theorem ds_while (hp : PassesOwn (model X.prog X.w) X.A X.env X.xe) (hc : DT X B c wt) (hb : DSs X B body ws') : DS X B (.While c body [] pos) (wWhile wt ws') :=
  PS.imp (ps_while hp hc hb) fun D σ H ⟨G, ρ, n, τ, D', e, ⟨W, ⟨m0, h0⟩, step⟩, nx, rt, bk, ct⟩ => by
    refine ⟨fun m σ H => ∃ G ρ n, EnvOk X.K B.1 B.2 G H σ ρ n τ ∧ W m ρ n, ⟨m0, G, ρ, n, e, h0⟩, ?_⟩
    rintro m σ1 H1 ⟨G1, ρ1, n1, e1, h1⟩
    refine ⟨G1, ρ1, n1, τ, _, e1, step m ρ1 n1 h1, fun b ρ2 n2 G2 H2 h2 e2 => ?_⟩
    cases b with
    | false => exact iteF (nx _ _ _ _ _ (by simpa using h2) e2)
    | true =>
      refine iteT ⟨fun σ' H' => ∃ m', m' < m ∧ ∃ G ρ n, EnvOk X.K B.1 B.2 G H' σ' ρ n τ ∧ W m' ρ n, fun σ' H' ⟨m', hm, q⟩ => ⟨m', hm, q⟩, G2, ρ2, n2, τ, _, e2, (if_pos rfl).mp h2, ?_, ?_, ?_, ?_⟩
      · rintro σ' ρ' n' G' H' ⟨m', hm, hw⟩ e'; exact ⟨m', hm, G', ρ', n', e', hw⟩
      · exact rt
      · exact fun σ' ρ' n' G' H' h e' => nx _ _ _ _ _ h e'
      · rintro σ' ρ' n' G' H' ⟨m', hm, hw⟩ e'; exact ⟨m', hm, G', ρ', n', e', hw⟩
/-! ### x op= e, of ints -/
def wAugI (i : Nat) (f : Int → Int → Int) (w : TD) : TDS := fun E ρ n => (∃ a, ρ[i]? = some (.val (.int a)) ∧ w ρ n fun r ρ1 n1 => ∃ b, r = .val (.int b) ∧ E.nx (ρ1.set i (.val (.int (f a b)))) n1)
theorem ds_augI {st : Stmt} {i : Nat} {f : Int → Int → Int} (h : PS X st (tAug i (tD X.K B wa) (ipI f))) : DS X B st (wAugI i f wa) :=
  PS.imp h fun D σ H ⟨G, ρ, n, τ, D', e, ⟨a, ha, hw⟩, nx, _⟩ => by
    obtain ⟨v, ev, rv⟩ := e.sl i _ ha
    cases rv
    refine ⟨_, ev, G, ρ, n, τ, _, e, hw, fun r ρ1 n1 v1 G1 H1 ⟨b, hr, hq⟩ e1 => ?_⟩
    subst hr
    have rb := e1.topV
    cases rb
    obtain ⟨G2, e2⟩ := (e1.pop.pushV (d := .int (f a b)) (.int _)).assign' (i := i)
    exact ⟨a, b, rfl, rfl, nx _ _ _ _ _ hq e2⟩
/-! ### {k: v}, k a tuple -/
def tDisp1T (tk tv : TE) : TE := fun σ H Q => ∀ p, H p = none → tk σ (upd H p (.dT [])) fun x H1 => tv σ H1 fun y H2 => H2 p = some (.dT []) ∧ ∃ b ks, x = .ref b ∧ H2 b = some (.tup (ks.map kV)) ∧ Q (.ref p) (upd H2 p (.dT [(ks, y)]))
theorem pe_disp1T {tk tv : TE} (hu : X.A.units + 2 < cLine) (hk : PE X k tk) (hv : PE X v tv) : PE X (.Dict [some k] [v] pos) (tDisp1T tk tv) := by
  refine ⟨fun pins s σ H Q I q => ?_⟩
  have hn := I.hok.fresh (Nat.le_refl s.heap.objs.size)
  have I1 := I.laid (a := s.heap.objs.size) (o := .dT []) (h' := s.heap.push { cls := .type "dict", data := .dict #[] }) (t' := s.toks) (fun _ _ q => Heap.get?_push_of_some _ q) (Nat.le_refl _) (dt_empty s.heap I.big)
  have hlen : (pairTrees [some k] [v] X.env pos).length = 1 := rfl
  have sz1 : 1 ≤ sizeLine := by decide
  rw [arm_eval_Dict, zip_pairTrees [some k] [v] X.env pos rfl rfl, dictDisplay_pairs (pairTrees [some k] [v] X.env pos) (by intro z; cases z) (by rw [hlen]; decide)]
  refine wpAny_bind (wpAny_standAt (wpAny_bind (wpAny_subDictH (knd := tupleKind (mixKind X.prog X.w)) (Q := fun d s' => wpAny (model X.prog X.w) X.A (pure (Value.ref d)) _ X.xe s') ?_ (by rw [hlen]; decide) ?_)))
  · show X.A.units < cLine; omega
  · refine pairTrees_cons_walk (thn (hk.run pins _ σ _ _ I1 (q _ hn)) fun u s1 ⟨x, H1, I2, rx, q1⟩ => thn (hv.run pins s1 σ H1 _ I2 q1) fun u2 s2 ⟨y, H2, I3, ry, he, b, ks, ex, hb, q2⟩ => pairTrees_nil_walk ?_)
    subst ex
    cases rx
    obtain ⟨z, hd, xs, rel, dd⟩ := dt_of I3.hok he
    cases rel
    refine ⟨[(ks, b, u2)], ⟨rfl, rfl, key_of I3.hok hb, trivial⟩, dd, fun h' tk dd' hs => wpAny_pure ⟨.ref s.heap.objs.size, _, ?_, rfl, q2⟩⟩
    obtain ⟨q, es, ep, hq, h2, h3, h4, _, h5⟩ := dd'
    refine d_write I3 (by rw [he]; exact True.intro) hs ⟨q, hq⟩ ⟨sz1, hd, [(ks, b, u2)], .cons ⟨rfl, ?_, ry⟩ .nil, q, es, ep, hq, h2, h3, h4, h5⟩
    rw [upd_ne (ne_of hb he (fun z => nomatch z))]
    exact hb
theorem EnvOk.growD {K : PySem.W.Frag} {G G0 : Gh} {H H0 : Hp} {σ : L2.St} {ρ : List SV} {n : Nat} {τ : List (V × RV)} {t : Bool} {a : Addr} {u u' : HO} {m m' : List (List Key × D)} (e : EnvOk K G0 H0 G H σ ρ n (τ ++ [(.ref a, .newD t m)])) (ha : H a = some u)
    (ow' : OwnD K G H t u' m') : EnvOk K G0 H0 G (upd H a u') σ ρ n (τ ++ [(.ref a, .newD t m')]) := by
  obtain ⟨a', u0, ea, g, ha', ow⟩ := e.top
  cases ea
  rw [ha] at ha'
  cases ha'
  have h0 := e.notIn (.inr ⟨_, g⟩)
  have nt := ow.notT
  have x : Ext G H G (upd H a u') := by
    refine ⟨fun c q => ⟨q, fun w z => ?_⟩, fun c xs q => ?_, fun c ob w q => ?_, fun _ _ q => q⟩
    · rw [upd_ne (fun y => by subst y; rw [q] at g; cases g)]; exact z
    · rw [upd_ne (fun y => by subst y; rw [q] at ha; cases ha; exact nt.1 _ rfl)]; exact q
    · rw [upd_ne (fun y => by subst y; rw [q] at ha; cases ha; exact nt.2 _ _ rfl)]; exact q
  refine EnvOk.push ⟨⟨fun c w q h1 h2 => ?_, e.gr.bagd, e.gr.bagl, fun c xs q => x.tup c xs (e.gr.tup c xs q), fun c ob w q => x.frz c ob w (e.gr.frz c ob w q)⟩, e.ns, e.nt, fun c b q => ?_, fun c q => ?_, e.ln, fun i s hs => (e.sl i s hs).mono x fun c vs g' q => ⟨g', ?_⟩, fun i v' r' h => ?_⟩ ⟨a, _, rfl, g, upd_same, ow'.mono x⟩
  · have hc : c ≠ a := fun z => by subst z; rw [h0] at q; cases q
    rw [upd_ne hc]; exact e.gr.keep c w q h1 h2
  · obtain ⟨gb, far, s, t, hc, hb, z⟩ := e.bg c b q
    exact ⟨gb, far, s, t, by rw [upd_ne (fun y => by subst y; rw [q] at g; cases g)]; exact hc, by rw [upd_ne (fun y => by subst y; rw [gb] at g; cases g)]; exact hb, z⟩
  · by_cases hc : c = a
    · subst hc; rw [upd_same] at q; cases q
    · rw [upd_ne hc] at q; exact e.fh c q
  · rw [upd_ne (fun y => by subst y; rw [g] at g'; cases g')]; exact q
  · have hm : i < τ.length := (List.getElem?_eq_some_iff.mp h).1
    refine (e.pop.tm i v' r' h).mono x fun c vs g' q => ⟨g', ?_⟩
    rw [upd_ne (fun y => by subst y; rw [g] at g'; cases g'; omega)]; exact q
def wDOne (wk wv : TD) : TD := fun ρ n Q => wk ρ n fun rk ρ1 n1 => wv ρ1 n1 fun rv ρ2 n2 => ∃ dk k, rk = .val dk ∧ dkey true dk = some k ∧ Q (.newD true [(k, dOf rv)]) ρ2 n2
theorem de_disp1T (hu : X.A.units + 2 < cLine) (hk : DE X B k wk) (hv : DE X B v wv) : DE X B (.Dict [some k] [v] pos) (wDOne wk wv) :=
  PE.imp (pe_disp1T hu hk hv) fun σ H Q ⟨G, ρ, n, τ, Q', e, hw, kk⟩ p hp => by
    have e0 : EnvOk X.K B.1 B.2 (updG G p (.tmp τ.length)) (upd H p (.dT [])) σ ρ n (τ ++ [(.ref p, .newD true [])]) :=
      (e.alloc hp (.dT []) (.tmp τ.length) (by simp)).push ⟨p, _, rfl, updG_same, upd_same, [], rfl, .nil⟩
    refine ⟨_, ρ, n, _, _, e0, hw, fun rk ρ1 n1 x G1 H1 h1 e1 => ⟨G1, ρ1, n1, _, _, e1, h1, fun rv ρ2 n2 y G2 H2 ⟨dk, ks, hr, hks, hq⟩ e2 => ?_⟩⟩
    subst hr
    obtain ⟨G3, x3, e3⟩ := e2.freeze
    rw [frz_val] at e3
    obtain ⟨a0, u0, ea, g, ha, vs, eu, rm⟩ := e3.pop.pop.top
    cases ea
    cases rm
    have rx : Rep X.K G3 H2 x dk := e3.top2
    cases dk with
    | tup ds =>
      cases rx with
      | tup q rl =>
        have ek := keys_rep rl hks
        rw [ek] at q
        subst eu
        refine ⟨ha, _, ks, rfl, q, kk _ _ _ _ _ _ hq (e3.pop.pop.growD ha ⟨_, rfl, .cons e3.topV .nil⟩)⟩
    | _ => cases hks
end
end Ly

namespace Ly
open PySem PySem.Spec PyProof.Rows L2
/-! ### how the weakest conditions are evaluated -/
def isiB (d : D) (m : String) : Option Bool := (tyName d).bind fun T => kitB T m
section
variable {R : RV → Prop} {Q : KE} {r s : RV} {ρ : List SV} {n : Nat} {d : D} {m : String} {i j : Int} {ne : Bool} {l : List D} {x y : Str}
theorem wgNil_iff {Q : List SV → Nat → Prop} : wgNil [] ρ n Q ↔ Q ρ n := by unfold wgNil; simp
theorem wgCons_iff {wg : TDG} {wgs : TDGs} {rs : List RV} {Q : List SV → Nat → Prop} : wgCons wg wgs (r :: rs) ρ n Q ↔ wg r ρ n fun ρ1 n1 => wgs rs ρ1 n1 Q := by
  unfold wgCons
  constructor
  · rintro ⟨r', rs', e, h⟩; cases e; exact h
  · intro h; exact ⟨r, rs, rfl, h⟩
theorem wgTup_iff {k : Nat} {wgs : TDGs} {Q : List SV → Nat → Prop} : wgTup k wgs (.val (.tup l)) ρ n Q ↔ l.length = k ∧ wgs (l.map .val) ρ n Q := by
  unfold wgTup
  constructor
  · rintro ⟨ds, e, h⟩; cases e; exact h
  · intro h; exact ⟨l, rfl, h⟩
theorem gIsi_iff : gIsi [r, .val (.ty m)] R ↔ ∃ b, isiB (dOf r) m = some b ∧ R (.val (.bl b)) := by
  unfold gIsi isiB
  constructor
  · rintro ⟨r', m', T, b, e, h1, h2, h3⟩
    cases e
    exact ⟨b, by rw [h1]; exact h2, h3⟩
  · rintro ⟨b, h, h3⟩
    cases q : tyName (dOf r) with
    | none => rw [q] at h; cases h
    | some T => rw [q] at h; exact ⟨r, m, T, b, rfl, q, h, h3⟩
theorem gLen_iff : gLen [r] R ↔ ∃ l, seqOf r = some l ∧ R (.val (.int l.length)) := by
  unfold gLen
  constructor
  · rintro ⟨r', e, l, h⟩; cases e; exact ⟨l, h⟩
  · rintro ⟨l, h⟩; exact ⟨r, rfl, l, h⟩
theorem gTuple_iff : gTuple [r] R ↔ ∃ l, seqOf r = some l ∧ R (.val (.tup l)) := by
  unfold gTuple
  constructor
  · rintro ⟨r', l, e, h⟩; cases e; exact ⟨l, h⟩
  · rintro ⟨l, h⟩; exact ⟨r, l, rfl, h⟩
theorem gList_iff : gList [r] R ↔ ∃ l, seqOf r = some l ∧ R (.new l) := by
  unfold gList
  constructor
  · rintro ⟨r', l, e, h⟩; cases e; exact ⟨l, h⟩
  · rintro ⟨l, h⟩; exact ⟨r, l, rfl, h⟩
theorem gAll_iff : gAll [r] R ↔ ∃ bs : List Bool, listOf r = some (bs.map D.bl) ∧ R (.val (.bl (bs.all id))) := by
  unfold gAll
  constructor
  · rintro ⟨r', l, bs, e, h1, h2, h3⟩; cases e; subst h2; exact ⟨bs, h1, h3⟩
  · rintro ⟨bs, h1, h3⟩; exact ⟨r, _, bs, rfl, h1, rfl, h3⟩
theorem gI_iff {C : Int → Int → Prop} {f : Int → Int → D} : gI C f (.val (.int i)) (.val (.int j)) R ↔ C i j ∧ R (.val (f i j)) := by
  unfold gI
  constructor
  · rintro ⟨i', j', e1, e2, h⟩; cases e1; cases e2; exact h
  · intro h; exact ⟨i, j, rfl, rfl, h⟩
theorem gAbs_iff : gAbs [.val (.int i)] R ↔ R (.val (.int (if i < 0 then -i else i))) := by
  unfold gAbs
  constructor
  · rintro ⟨i', e1, h⟩; cases e1; exact h
  · intro h; exact ⟨i, rfl, h⟩
theorem gMM_iff {f : Int → Int → Int} : gMM f [.val (.int i), .val (.int j)] R ↔ R (.val (.int (f i j))) := by
  unfold gMM
  constructor
  · rintro ⟨i', j', e1, h⟩; cases e1; exact h
  · intro h; exact ⟨i, j, rfl, h⟩
theorem gInt_iff : gInt [.val (.int i)] R ↔ R (.val (.int i)) := by
  unfold gInt
  constructor
  · rintro ⟨r, e, h⟩
    cases e
    rcases h with ⟨i', e, h⟩ | ⟨b, e, h⟩
    · cases e; exact h
    · cases e
  · intro h; exact ⟨_, rfl, .inl ⟨i, rfl, h⟩⟩
theorem gEq_int : gEq ne (.val (.int i)) (.val (.int j)) R ↔ R (.val (.bl (xor ne (decide (i = j))))) := Iff.rfl
theorem gEq_str : gEq ne (.val (.str x)) (.val (.str y)) R ↔ R (.val (.bl (xor ne (decide (x = y))))) := Iff.rfl
theorem gEq_emp : gEq ne r (.new []) R ↔ ∃ l, listOf r = some l ∧ R (.val (.bl (xor ne l.isEmpty))) := by
  unfold gEq
  split
  · rename_i h; cases h
  · rename_i h; cases h
  · exact Iff.rfl
  · rename_i h _ _; exact False.elim (h rfl)
theorem gAdd_int : gAdd (.val (.int i)) (.val (.int j)) R ↔ R (.val (.int (i + j))) := Iff.rfl
theorem gAdd_tup {a b : List D} : gAdd (.val (.tup a)) (.val (.tup b)) R ↔ a.length + b.length ≤ sizeLine ∧ R (.val (.tup (a ++ b))) := Iff.rfl
theorem gAdd_lst {a b : List D} : gAdd (.val (.lst a)) (.val (.lst b)) R ↔ a.length + b.length ≤ sizeLine ∧ R (.new (a ++ b)) := Iff.rfl
theorem gAdd_lstN {a b : List D} : gAdd (.val (.lst a)) (.new b) R ↔ a.length + b.length ≤ sizeLine ∧ R (.new (a ++ b)) := Iff.rfl
theorem gAdd_Nlst {a b : List D} : gAdd (.new a) (.val (.lst b)) R ↔ a.length + b.length ≤ sizeLine ∧ R (.new (a ++ b)) := Iff.rfl
theorem gAdd_new {a b : List D} : gAdd (.new a) (.new b) R ↔ a.length + b.length ≤ sizeLine ∧ R (.new (a ++ b)) := Iff.rfl
theorem gMul_int : gMul (.val (.int i)) (.val (.int j)) R ↔ CMul i j ∧ R (.val (.int (i * j))) := Iff.rfl
theorem gMul_tup : gMul (.val (.tup l)) (.val (.int i)) R ↔ l ≠ [] ∧ -1000 ≤ i ∧ i ≤ 1000 ∧ l.length ≤ 1000 ∧ R (.val (.tup (List.replicate i.toNat l).flatten)) := Iff.rfl
theorem gIsN_iff : gIsN ne r (.val .non) R ↔ R (.val (.bl (xor ne (isNon r)))) := by
  unfold gIsN; simp
theorem gSl_tup {lo hi : Option Int} : gSl lo hi (.val (.tup l)) R ↔ R (.val (.tup (cutD l lo hi))) := Iff.rfl
theorem gSl_lst {lo hi : Option Int} : gSl lo hi (.val (.lst l)) R ↔ R (.new (cutD l lo hi)) := by
  unfold gSl; simp [listOf]
theorem gSl_new {lo hi : Option Int} : gSl lo hi (.new l) R ↔ R (.new (cutD l lo hi)) := by
  unfold gSl; simp [listOf]
end
theorem at0 {α : Type} {a : α} {l : List α} : atI (a :: l) 0 = some a := atI_nat (j := 0) rfl
theorem at1 {α : Type} {a b : α} {l : List α} : atI (a :: b :: l) 1 = some b := atI_nat (j := 1) rfl
theorem sqL {l : List D} : seqOf (.val (.lst l)) = some l := rfl
theorem sqT {l : List D} : seqOf (.val (.tup l)) = some l := rfl
theorem sqN {l : List D} : seqOf (.new l) = some l := rfl
theorem ssL {l : List D} : seqS (.val (.lst l)) = some l := rfl
theorem ssT {l : List D} : seqS (.val (.tup l)) = some l := rfl
theorem ssO {l : List D} : seqS (.own l) = some l := rfl
theorem dOf_val {d : D} : dOf (.val d) = d := rfl
theorem dOf_new {l : List D} : dOf (.new l) = .lst l := rfl
theorem svOf_val {d : D} : svOf (.val d) = .val d := rfl
theorem svOf_new {l : List D} : svOf (.new l) = .own l := rfl
theorem kI (d : D) : isiB d "int" = (match d with | .int _ => some true | .bl _ => some true | .non => some false | .str _ => some false | .tup _ => some false | .lst _ => some false | .dct => some false | .dc0 => some false | _ => none) := by
  cases d <;> first | rfl | (show kitB _ _ = _; decide +kernel)
theorem kB (d : D) : isiB d "bool" = (match d with | .int _ => some false | .bl _ => some true | .non => some false | .str _ => some false | .tup _ => some false | .lst _ => some false | .dct => some false | .dc0 => some false | _ => none) := by
  cases d <;> first | rfl | (show kitB _ _ = _; decide +kernel)
theorem kT (d : D) : isiB d "tuple" = (match d with | .int _ => some false | .bl _ => some false | .non => some false | .str _ => some false | .tup _ => some true | .lst _ => some false | .dct => some false | .dc0 => some false | _ => none) := by
  cases d <;> first | rfl | (show kitB _ _ = _; decide +kernel)
theorem kS (d : D) : isiB d "str" = (match d with | .int _ => some false | .bl _ => some false | .non => some false | .str _ => some true | .tup _ => some false | .lst _ => some false | .dct => some false | .dc0 => some false | _ => none) := by
  cases d <;> first | rfl | (show kitB _ _ = _; decide +kernel)
/-! ### cuts, sizes -/
theorem cut_to {l : List D} {p : Nat} : cutD l none (some (p : Int)) = l.take p := by
  unfold cutD
  rw [HT.sIx_nat, HT.sIx_none, List.drop_zero, Nat.sub_zero]
  by_cases h : p ≤ l.length
  · rw [Nat.min_eq_left h]
  · rw [Nat.min_eq_right (by omega), List.take_length, List.take_of_length_le (by omega)]
theorem cut_from {l : List D} {p : Nat} : cutD l (some (p : Int)) none = l.drop p := by
  unfold cutD
  rw [HT.sIx_nat, HT.sIx_none]
  by_cases h : p ≤ l.length
  · rw [Nat.min_eq_left h, List.take_of_length_le (by rw [List.length_drop]; exact Nat.le_refl _)]
  · rw [Nat.min_eq_right (by omega), List.drop_length, List.drop_eq_nil_of_le (by omega)]
    simp
theorem sz {n : Nat} (h : n ≤ 10000) : n ≤ sizeLine := Nat.le_trans h (by decide)
theorem szl {n : Nat} (h : n ≤ 10000) : n < sizeLine := Nat.lt_of_le_of_lt h (by decide)
/-! ### loops by what stays true -/
theorem comp_inv {wg : TDG} {wt : TDT} {we : TD} {vs : List Nat} {ds : List D} {Q : List D → List SV → Nat → Prop} {ρ : List SV} {n : Nat} (J : Nat → List D → List SV → Nat → Prop)
    (step : ∀ i d acc ρ n, ds[i]? = some d → J i acc ρ n → ∀ K : List D → List SV → Nat → Prop, (∀ acc' ρ' n', J (i + 1) acc' ρ' n' → K acc' ρ' n') →
      wg (.val d) ρ n fun ρ1 n1 => wt ρ1 n1 fun b ρ2 n2 => if b = true then we ρ2 n2 fun r ρ3 n3 => acc.length < sizeLine ∧ K (acc ++ [dOf r]) (wipeD ρ3 vs) n3 else K acc (wipeD ρ2 vs) n2)
    (h0 : J 0 [] ρ n) (fin : ∀ acc ρ n, J ds.length acc ρ n → Q acc ρ n) : compD wg wt we vs ds [] Q ρ n := by
  have main : ∀ (k : Nat) (i : Nat) (acc : List D) (ρ : List SV) (n : Nat), ds.length - i = k → i ≤ ds.length → J i acc ρ n → compD wg wt we vs (ds.drop i) acc Q ρ n := by
    intro k
    induction k with
    | zero =>
      intro i acc ρ n hk hi h
      have : i = ds.length := by omega
      subst this
      rw [List.drop_length]
      exact fin acc ρ n h
    | succ k ih =>
      intro i acc ρ n hk hi h
      have hlt : i < ds.length := by omega
      rw [List.drop_eq_getElem_cons hlt]
      exact step i _ acc ρ n (List.getElem?_eq_getElem hlt) h (fun acc' ρ' n' => compD wg wt we vs (ds.drop (i + 1)) acc' Q ρ' n') fun acc' ρ' n' h' => ih (i + 1) acc' ρ' n' (by omega) hlt h'
  have := main ds.length 0 [] ρ n (by omega) (Nat.zero_le _) h0
  rwa [List.drop_zero] at this
theorem loop_inv {wg : TDG} {wb : TDS} {ds : List D} {E : DEnds} {ρ : List SV} {n : Nat} (J : Nat → List SV → Nat → Prop)
    (step : ∀ i d ρ n, ds[i]? = some d → J i ρ n → ∀ NX : List SV → Nat → Prop, (∀ ρ' n', J (i + 1) ρ' n' → NX ρ' n') → wg (.val d) ρ n fun ρ1 n1 => wb { nx := NX, rt := E.rt, bk := E.nx, ct := NX } ρ1 n1)
    (h0 : J 0 ρ n) (fin : ∀ ρ n, J ds.length ρ n → E.nx ρ n) : loopD wg wb ds E ρ n := by
  have main : ∀ (k : Nat) (i : Nat) (ρ : List SV) (n : Nat), ds.length - i = k → i ≤ ds.length → J i ρ n → loopD wg wb (ds.drop i) E ρ n := by
    intro k
    induction k with
    | zero =>
      intro i ρ n hk hi h
      have : i = ds.length := by omega
      subst this
      rw [List.drop_length]
      exact fin ρ n h
    | succ k ih =>
      intro i ρ n hk hi h
      have hlt : i < ds.length := by omega
      rw [List.drop_eq_getElem_cons hlt]
      exact step i _ ρ n (List.getElem?_eq_getElem hlt) h (fun ρ' n' => loopD wg wb (ds.drop (i + 1)) E ρ' n') fun ρ' n' h' => ih (i + 1) ρ' n' (by omega) hlt h'
  have := main ds.length 0 ρ n (by omega) (Nat.zero_le _) h0
  rwa [List.drop_zero] at this
theorem rgD_get {lo : Int} {m i : Nat} {d : D} (h : (rgD lo m)[i]? = some d) : i < m ∧ d = .int (lo + (i : Nat)) := by
  unfold rgD at h
  rw [List.getElem?_map] at h
  by_cases hi : i < m
  · rw [List.getElem?_range hi] at h; cases h; exact ⟨hi, rfl⟩
  · rw [List.getElem?_eq_none (by rw [List.length_range]; omega)] at h; cases h
theorem rgD_len {lo : Int} {m : Nat} : (rgD lo m).length = m := by unfold rgD; rw [List.length_map, List.length_range]
theorem comp_map {wg : TDG} {we : TD} {vs : List Nat} {ds : List D} {Q : List D → List SV → Nat → Prop} {ρ0 : List SV} {n : Nat} (P : Nat → D → Prop) (c : Nat)
    (step : ∀ i d n', ds[i]? = some d → n ≤ n' → n' ≤ n + c * i → ∀ K : KE, (∀ r ρ' n'', P i (dOf r) → wipeD ρ' vs = ρ0 → n' ≤ n'' → n'' ≤ n' + c → K r ρ' n'') → wg (.val d) ρ0 n' fun ρ1 n1 => we ρ1 n1 K)
    (hl : ds.length ≤ 10000) (fin : ∀ l n', l.length = ds.length → (∀ i d, l[i]? = some d → P i d) → n ≤ n' → n' ≤ n + c * ds.length → Q l ρ0 n') : compD wg wYes we vs ds [] Q ρ0 n := by
  refine comp_inv (fun i acc ρ n' => ρ = ρ0 ∧ i ≤ ds.length ∧ n ≤ n' ∧ n' ≤ n + c * i ∧ acc.length = i ∧ ∀ j d, acc[j]? = some d → P j d) ?_ ⟨rfl, Nat.zero_le _, Nat.le_refl _, Nat.le_refl _, rfl, by simp⟩ ?_
  · rintro i d acc ρ n' hd ⟨rfl, hi, b1, b2, hr1, hr2⟩ K hK
    have hil : i < ds.length := (List.getElem?_eq_some_iff.mp hd).1
    have := step i d n' hd b1 b2 (fun r ρ3 n3 => acc.length < sizeLine ∧ K (acc ++ [dOf r]) (wipeD ρ3 vs) n3) (fun r ρ' n'' hP hw c1 c2 => ⟨szl (by omega), hK _ _ _ ⟨hw, hil, by omega, ?_, by simp [hr1], fun j d hj => ?_⟩⟩)
    · simpa [wYes] using this
    · rw [Nat.mul_add, Nat.mul_one]; omega
    · by_cases hj' : j < acc.length
      · rw [List.getElem?_append_left hj'] at hj; exact hr2 j d hj
      · rw [List.getElem?_append_right (by omega)] at hj
        cases hk : j - acc.length with
        | zero =>
          rw [hk] at hj
          simp at hj
          have : j = i := by omega
          subst this
          rw [← hj]; exact hP
        | succ k => rw [hk] at hj; simp at hj
  · rintro acc ρ n' ⟨rfl, hi, b1, b2, hr1, hr2⟩
    exact fin acc n' hr1 hr2 b1 b2
/-- items that are all of one kind -/
theorem all_ints {l : List D} {P : Int → Prop} (h : ∀ (i : Nat) d, l[i]? = some d → ∃ k, d = .int k ∧ P k) : ∃ r : List Int, l = r.map .int ∧ ∀ x ∈ r, P x := by
  induction l with
  | nil => exact ⟨[], rfl, by simp⟩
  | cons d l ih =>
    obtain ⟨r, e, hr⟩ := ih fun i d' hd => h (i + 1) d' (by simpa using hd)
    obtain ⟨k, e', hk⟩ := h 0 d rfl
    refine ⟨k :: r, by rw [List.map_cons, ← e, e'], fun x hx => ?_⟩
    rcases List.mem_cons.mp hx with hx | hx
    · rw [hx]; exact hk
    · exact hr x hx
theorem all_map {α : Type} {f : α → D} {l : List D} {P : α → Prop} (h : ∀ (i : Nat) d, l[i]? = some d → ∃ k, d = f k ∧ P k) : ∃ r : List α, l = r.map f ∧ ∀ x ∈ r, P x := by
  induction l with
  | nil => exact ⟨[], rfl, by simp⟩
  | cons d l ih =>
    obtain ⟨r, e, hr⟩ := ih fun i d' hd => h (i + 1) d' (by simpa using hd)
    obtain ⟨k, e', hk⟩ := h 0 d rfl
    refine ⟨k :: r, by rw [List.map_cons, ← e, e'], fun x hx => ?_⟩
    rcases List.mem_cons.mp hx with hx | hx
    · rw [hx]; exact hk
    · exact hr x hx
end Ly

namespace Ly
open PySem PySem.Spec PyProof.Rows L2
/-! ### what the drawing defs promise -/
def ret (n cost : Nat) (P : D → Prop) (Q : D → Nat → Prop) : Prop := n + cost ≤ 1000000000000 ∧ ∀ d n', P d → n ≤ n' → n' ≤ n + cost → Q d n'
def rowD (r : List Int) : D := .tup (r.map .int)
theorem rowD_def {r : List Int} : rowD r = .tup (r.map .int) := rfl
def mvD (mv : List (List Int)) : List D := mv.map rowD
def tlD (tl : List Int) : List D := tl.map .int
theorem mvD_len {mv : List (List Int)} : (mvD mv).length = mv.length := List.length_map ..
theorem tlD_len {tl : List Int} : (tlD tl).length = tl.length := List.length_map ..
theorem mv_at {mv : List (List Int)} {k : Nat} (h : k < mv.length) : atI (mvD mv) (k : Int) = some (rowD mv[k]) := by
  have : (mvD mv)[k]? = some (rowD mv[k]) := by unfold mvD; rw [List.getElem?_map, List.getElem?_eq_getElem h]; rfl
  exact atI_nat this
theorem mv_at0 {mv : List (List Int)} (h : 0 < mv.length) : atI (mvD mv) 0 = some (rowD mv[0]) := mv_at (k := 0) h
theorem int_at {tl : List Int} {k : Nat} (h : k < tl.length) : atI (tl.map D.int) (k : Int) = some (.int tl[k]) := by
  have : (tl.map D.int)[k]? = some (.int tl[k]) := by rw [List.getElem?_map, List.getElem?_eq_getElem h]; rfl
  exact atI_nat this
theorem tl_at {tl : List Int} {k : Nat} (h : k < tl.length) : atI (tlD tl) (k : Int) = some (.int tl[k]) := int_at h
theorem fdivN (a b : Nat) : (a : Int).fdiv (b : Int) = ((a / b : Nat) : Int) := by rw [Int.fdiv_eq_ediv_of_nonneg _ (by omega)]; rfl
theorem fmodN (a b : Nat) : (a : Int).fmod (b : Int) = ((a % b : Nat) : Int) := by rw [Int.fmod_eq_emod_of_nonneg _ (by omega)]; rfl
theorem tlD_cut {tl : List Int} {k : Nat} {x : Int} : (tlD tl).take k ++ [.int x] ++ (tlD tl).drop (k + 1) = tlD (tl.take k ++ [x] ++ tl.drop (k + 1)) := by
  unfold tlD
  rw [List.map_append, List.map_append, List.map_take, List.map_drop]; rfl
theorem int_cut {tl : List Int} {k : Nat} {x : Int} : (tl.map D.int).take k ++ [.int x] ++ (tl.map D.int).drop (k + 1) = (tl.take k ++ [x] ++ tl.drop (k + 1)).map .int := tlD_cut
theorem mvD_cut {mv : List (List Int)} {k : Nat} {r : List Int} : (mvD mv).take k ++ [rowD r] ++ (mvD mv).drop (k + 1) = mvD (mv.take k ++ [r] ++ mv.drop (k + 1)) := by
  unfold mvD
  rw [List.map_append, List.map_append, List.map_take, List.map_drop]; rfl
theorem cut_len {α : Type} {l : List α} {k : Nat} {x : α} (h : k < l.length) : (l.take k ++ [x] ++ l.drop (k + 1)).length = l.length := by
  simp only [List.length_append, List.length_take, List.length_drop, List.length_cons, List.length_nil]; omega
theorem cut_mem {α : Type} {l : List α} {k : Nat} {x y : α} (h : y ∈ l.take k ++ [x] ++ l.drop (k + 1)) : y ∈ l ∨ y = x := by
  rcases List.mem_append.mp h with h | h
  · rcases List.mem_append.mp h with h | h
    · exact .inl (List.mem_of_mem_take h)
    · simp at h; exact .inr h
  · exact .inl (List.mem_of_mem_drop h)
/-- a machine: of m kinds of letters, s states, that tells numbers to t -/
def Mach (m s : Nat) (t : Int) (d : D) : Prop := ∃ (mv : List (List Int)) (tl : List Int), d = .tup [.tup (mvD mv), .tup (tlD tl)] ∧ mv.length = s ∧ tl.length = s ∧
  (∀ r ∈ mv, r.length = m ∧ ∀ x ∈ r, 0 ≤ x ∧ x < (s : Int)) ∧ ∀ x ∈ tl, 0 ≤ x ∧ x ≤ t
def c_law_bag : Ctr := fun ds n Q => ∃ ns, ds = [.scr ns] ∧ ns.length ≤ 63 ∧ ∀ a, Q (.bag a) n
def c_law_draw : Ctr := fun ds n Q => ∃ a m, ds = [.bag a, .int m] ∧ 1 ≤ m ∧ m ≤ 1000000 ∧ ret n 1 (fun d => ∃ k, d = .int k ∧ 0 ≤ k ∧ k < m) Q
def c_law_pick : Ctr := fun ds n Q => ∃ a s l, ds = [.bag a, s] ∧ seqOf (.val s) = some l ∧ 1 ≤ l.length ∧ l.length ≤ 1000000 ∧ ret n 1 (fun d => d ∈ l) Q
def smallNames : List Str := ["holds", "next", "begins", "sorted"]
def c_law_known : Ctr := fun ds n Q => ∃ x, ∃ m : Nat, ds = [.str x, .int m] ∧ 1 ≤ m ∧ m ≤ 3 ∧ ret n 0 (fun d => ∃ s, 1 ≤ s ∧ s ≤ 4 ∧ Mach m s 3 d ∧ (x ∈ smallNames → Mach m s 1 d)) Q
def theNames : List Str := ["begins", "count", "ends", "holds", "length", "next", "parity", "sorted"]
def c_law_names : Ctr := fun ds n Q => ds = [] ∧ Q (.lst (theNames.map .str)) n
def c_law_any : Ctr := fun ds n Q => ∃ a, ∃ s m : Nat, ∃ t : Int, ds = [.bag a, .int s, .int m, .int t] ∧ 1 ≤ s ∧ s ≤ 24 ∧ 1 ≤ m ∧ m ≤ 3 ∧ 0 ≤ t ∧ t ≤ 99 ∧ ret n 200 (Mach m s t) Q
def c_law_growing : Ctr := fun ds n Q => ∃ a, ∃ s m : Nat, ∃ t : Int, ds = [.bag a, .int s, .int m, .int t] ∧ 1 ≤ s ∧ s ≤ 24 ∧ 1 ≤ m ∧ m ≤ 3 ∧ 0 ≤ t ∧ t ≤ 99 ∧ ret n 200 (Mach m s t) Q
def c_law_bent : Ctr := fun ds n Q => ∃ a d, ∃ s m : Nat, ∃ t : Int, ds = [.bag a, d] ∧ 1 ≤ s ∧ s ≤ 24 ∧ 1 ≤ m ∧ m ≤ 3 ∧ t ≤ 99 ∧ Mach m s t d ∧ ret n 4 (Mach m s 99) Q
def c_law_by_length : Ctr := fun ds n Q => ∃ d e, ∃ s u m : Nat, ∃ t : Int, ds = [d, e] ∧ 1 ≤ s ∧ 1 ≤ u ∧ 2 * s * u ≤ 24 ∧ 1 ≤ m ∧ m ≤ 3 ∧ Mach m s t d ∧ Mach m u t e ∧ ret n 0 (Mach m (2 * s * u) t) Q
def c_law_both : Ctr := fun ds n Q => ∃ d e, ∃ s u m : Nat, ∃ t v : Int, ds = [d, e] ∧ 1 ≤ s ∧ 1 ≤ u ∧ s * u ≤ 24 ∧ 1 ≤ m ∧ m ≤ 3 ∧ 0 ≤ t ∧ t ≤ 99 ∧ 0 ≤ v ∧ v ≤ 99 ∧ Mach m s t d ∧ Mach m u v e ∧ ret n 0 (Mach m (s * u) (10 * t + v)) Q
def c_law_machine : Ctr := fun ds n Q => ∃ a, ds = [.bag a] ∧ ret n 1000 (fun d => ∃ m s, 1 ≤ m ∧ m ≤ 3 ∧ 1 ≤ s ∧ s ≤ 24 ∧ Mach m s 99 d) Q
def c_law_row : Ctr := fun ds n Q => ∃ a, ∃ m l : Nat, ds = [.bag a, .int m, .int l] ∧ 1 ≤ m ∧ m ≤ 3 ∧ l ≤ 1000 ∧ ret n 1000 (fun d => ∃ r : List Int, d = .tup (r.map .int) ∧ r.length = l ∧ ∀ x ∈ r, 0 ≤ x ∧ x < (m : Int)) Q
/-- d' tells what d tells: its states are d's (w), however often each -/
def Like (m u : Nat) (d d' : D) : Prop := ∃ (mv : List (List Int)) (tl : List Int) (mv' : List (List Int)) (tl' : List Int) (w : List Int), d = .tup [.tup (mvD mv), .tup (tlD tl)] ∧ d' = .tup [.tup (mvD mv'), .tup (tlD tl')] ∧ w.length = u ∧ w[0]? = some 0 ∧
  ∀ p, p < u → ∃ j : Nat, w[p]? = some (j : Int) ∧ j < mv.length ∧ tl'[p]? = tl[j]? ∧ ∃ r r', mv[j]? = some r ∧ mv'[p]? = some r' ∧ ∀ c, c < m → ∃ (g : Int) (q : Nat), r[c]? = some g ∧ r'[c]? = some (q : Int) ∧ w[q]? = some g
def c_law_split : Ctr := fun ds n Q => ∃ a d, ∃ s m u : Nat, ∃ t : Int, ds = [.bag a, d, .int u] ∧ 1 ≤ s ∧ s ≤ u ∧ u ≤ 24 ∧ 1 ≤ m ∧ m ≤ 3 ∧ Mach m s t d ∧ ret n 200 (fun d' => Mach m u t d' ∧ Like m u d d') Q
def c_law_wide : Ctr := fun ds n Q => ∃ a d, ∃ s m : Nat, ∃ t : Int, ds = [.bag a, d] ∧ 1 ≤ s ∧ s ≤ 24 ∧ 1 ≤ m ∧ m ≤ 3 ∧ Mach m s t d ∧ ret n 300 (fun d' => ∃ u, s ≤ u ∧ u ≤ 24 ∧ Mach m u t d' ∧ Like m u d d') Q
/-! ### what this law's defs promise -/
/-- plain data of bounded size -/
inductive Pl : D → Prop
  | non : Pl .non
  | bl (b : Bool) : Pl (.bl b)
  | int (i : Int) : Pl (.int i)
  | str (x : Str) : Pl (.str x)
  | dct : Pl .dct
  | tup {l : List D} : l.length ≤ 1000 → (∀ d ∈ l, Pl d) → Pl (.tup l)
  | lst {l : List D} : l.length ≤ 1000 → (∀ d ∈ l, Pl d) → Pl (.lst l)
def whole (v : D) (lo hi : Int) : Bool := match v with
  | .int i => decide (lo ≤ i) && decide (i ≤ hi)
  | _ => false
/-- the first item that is not as p asks -/
def firstBad (p : D → Bool) : Nat → List D → Option Nat
  | _, [] => none
  | i, d :: ds => if p d then firstBad p (i + 1) ds else some i
def goodItem (s m : Nat) : D → Bool
  | .tup l => decide (l.length = m) && l.all fun d => whole d 0 (s - 1)
  | _ => false
def badItem (mv : List D) : Option Nat := match mv with
  | .tup f :: _ => if 1 ≤ f.length ∧ f.length ≤ 3 then firstBad (goodItem mv.length f.length) 0 mv else some 0
  | _ => some 0
def telErr (v : D) : D := match v with
  | .tup [.tup mv, .tup tl] => if 1 ≤ mv.length ∧ mv.length ≤ 24 then
      match badItem mv with
      | some i => .tup [.str "moves", .int (i : Nat)]
      | none => if tl.length = mv.length then
          match firstBad (fun d => whole d 0 99) 0 tl with
          | some i => .tup [.str "tell", .int (i : Nat)]
          | none => .non
        else .str "tells"
    else .str "states"
  | _ => .str "form"
def rowErr (m : Int) (v : D) : D := match v with
  | .tup l => if 40 < l.length then .str "long" else
      match firstBad (fun d => whole d 0 (m - 1)) 0 l with
      | some i => .tup [.str "letter", .int (i : Nat)]
      | none => .non
  | _ => .str "form"
def oN : Option Nat → D
  | none => .non
  | some i => .int (i : Nat)
def isInt (v : D) : Bool := match v with | .int _ => true | _ => false
def c_is_integer : Ctr := fun ds n Q => ∃ v, ds = [v] ∧ Pl v ∧ Q (.bl (isInt v)) n
def c_is_whole : Ctr := fun ds n Q => ∃ v lo hi, ds = [v, .int lo, .int hi] ∧ Pl v ∧ Q (.bl (whole v lo hi)) n
def c_law_is_number : Ctr := c_is_whole
def isPair : D → Bool
  | .tup [.tup _, .tup _] => true
  | _ => false
def c_is_pair_of_tuples : Ctr := fun ds n Q => ∃ v, ds = [v] ∧ Pl v ∧ Q (.bl (isPair v)) n
def c_first_wrong_item : Ctr := fun ds n Q => ∃ mv, ds = [.tup mv] ∧ Pl (.tup mv) ∧ 1 ≤ mv.length ∧ Q (oN (badItem mv)) n
def c_teller_error : Ctr := fun ds n Q => ∃ v, ds = [v] ∧ Pl v ∧ Q (telErr v) n
def c_law_fault : Ctr := c_teller_error
def c_kinds : Ctr := fun ds n Q => ∃ m s t d, ds = [d] ∧ 1 ≤ s ∧ Mach m s t d ∧ Q (.int m) n
def c_row_error : Ctr := fun ds n Q => ∃ m v, ds = [.int m, v] ∧ Pl v ∧ Q (rowErr m v) n
def c_law_row_fault : Ctr := c_row_error
def c_law_odd : Ctr := fun ds n Q => ∃ a b, ds = [.bag a, .int b] ∧ ret n 1 Pl Q
def c_law_with : Ctr := fun ds n Q => ∃ l, ∃ p : Nat, ∃ v, ds = [.tup l, .int p, v] ∧ l.length ≤ 1000 ∧ p ≤ 1000 ∧ Q (.tup (l.take p ++ [v] ++ l.drop (p + 1))) n
/-- a pair of tuples of some size -/
def Pair (k : Nat) (d : D) : Prop := ∃ mv tl, d = .tup [.tup mv, .tup tl] ∧ mv.length ≤ k ∧ tl.length ≤ k ∧ (∀ x ∈ mv, Pl x ∧ ∀ l, x = .tup l → l.length ≤ k) ∧ ∀ x ∈ tl, Pl x
def c_law_spoilt : Ctr := fun ds n Q => ∃ a d, ∃ k : Nat, ds = [.bag a, d] ∧ 4 ≤ k ∧ k ≤ 500 ∧ 30 ≤ k ∧ Pair k d ∧ ret n 20 (Pair (k + 2)) Q
def c_law_no_pair : Ctr := fun ds n Q => ∃ a d, ∃ k : Nat, ds = [.bag a, d] ∧ k ≤ 500 ∧ Pair k d ∧ ret n 1 Pl Q
def c_law_rows : Ctr := fun ds n Q => ∃ a, ∃ m : Nat, ds = [.bag a, .int m] ∧ 1 ≤ m ∧ m ≤ 3 ∧ ret n 2000 (fun d => ∃ l, d = .lst l ∧ l.length = 5 ∧ ∀ x ∈ l, Pl x) Q
def c_law : Ctr := fun ds n Q => ∃ ns, ds = [.scr ns] ∧ ns.length ≤ 63 ∧ n = 0 ∧ ∀ n', Q (.bl true) n'
def wb_is_integer : TDS := (wRet (wAndV (wCB gIsi (wCons (wV 0) (wCons (wC (.ty "int")) wNil))) (wNotV (wCB gIsi (wCons (wV 0) (wCons (wC (.ty "bool")) wNil))))))
def wb_is_whole : TDS := (wRet (wAndV (wCall 1 c_is_integer (wCons (wV 0) wNil)) (wChain gLe gLe (wV 1) (wV 0) (wV 2))))
def wb_teller_error_1 : TDS := (wIfS (wTNot (wTst (wCall 3 c_is_whole (wCons (wV 5) (wCons (wC (.int 0)) (wCons (wC (.int 99)) wNil)))))) (wRet (wTup (wCons (wC (.str ("tell" : Str))) (wCons (wV 4) wNil)))) wSkip)
def wb_teller_error_2 : TDS := (wSeq (wFor (wiEn (wCons (wV 3) wNil)) (wgTup 2 (wgCons (wgN 4) (wgCons (wgN 5) wgNil))) wb_teller_error_1) (wRet (wC .non)))
def wb_teller_error_3 : TDS := (wSeq (wIfS (wTst (wOp (gEq true) (wLenN 3) (wLenN 2))) (wRet (wC (.str ("tells" : Str)))) wSkip) wb_teller_error_2)
def wb_teller_error_4 : TDS := (wSeq (wIfS (wTst (wOp (gIsN true) (wV 1) (wC .non))) (wRet (wTup (wCons (wC (.str ("moves" : Str))) (wCons (wV 1) wNil)))) wSkip) wb_teller_error_3)
def wb_teller_error_5 : TDS := (wSeq (wSet 1 (wCall 1 c_first_wrong_item (wCons (wV 2) wNil))) wb_teller_error_4)
def wb_teller_error_6 : TDS := (wSeq (wIfS (wTNot (wTst (wChain gLe gLe (wC (.int 1)) (wLenN 2) (wC (.int 24))))) (wRet (wC (.str ("states" : Str)))) wSkip) wb_teller_error_5)
def wb_teller_error_7 : TDS := (wSeq (wAsg (wV 0) (wgTup 2 (wgCons (wgN 2) (wgCons (wgN 3) wgNil)))) wb_teller_error_6)
def wb_teller_error : TDS := (wSeq (wIfS (wTNot (wTst (wCall 1 c_is_pair_of_tuples (wCons (wV 0) wNil)))) (wRet (wC (.str ("form" : Str)))) wSkip) wb_teller_error_7)
def wb_is_pair_of_tuples_1 : TDS := (wRet (wAndV (wCB gIsi (wCons (wIxN 0 (wC (.int 0))) (wCons (wC (.ty "tuple")) wNil))) (wCB gIsi (wCons (wIxN 0 (wC (.int 1))) (wCons (wC (.ty "tuple")) wNil)))))
def wb_is_pair_of_tuples : TDS := (wSeq (wIfS (wTOr (wTNot (wTst (wCB gIsi (wCons (wV 0) (wCons (wC (.ty "tuple")) wNil))))) (wTst (wOp (gEq true) (wLenN 0) (wC (.int 2))))) (wRet (wC (.bl false))) wSkip) wb_is_pair_of_tuples_1)
def wb_first_wrong_item_1 : TDS := (wIfS (wTNot (wTst (wCB gAll (wCons (wLc (wiSeq (wV 3)) (wgN 4) wYes (wCall 3 c_is_whole (wCons (wV 4) (wCons (wC (.int 0)) (wCons (wOp gMinus (wLenN 0) (wC (.int 1))) wNil)))) [4]) wNil)))) (wRet (wV 2)) wSkip)
def wb_first_wrong_item_2 : TDS := (wSeq (wIfS (wTOr (wTNot (wTst (wCB gIsi (wCons (wV 3) (wCons (wC (.ty "tuple")) wNil))))) (wTst (wOp (gEq true) (wLenN 3) (wLenN 1)))) (wRet (wV 2)) wSkip) wb_first_wrong_item_1)
def wb_first_wrong_item_3 : TDS := (wSeq (wFor (wiEn (wCons (wV 0) wNil)) (wgTup 2 (wgCons (wgN 2) (wgCons (wgN 3) wgNil))) wb_first_wrong_item_2) (wRet (wC .non)))
def wb_first_wrong_item_4 : TDS := (wSeq (wIfS (wTOr (wTNot (wTst (wCB gIsi (wCons (wV 1) (wCons (wC (.ty "tuple")) wNil))))) (wTNot (wTst (wChain gLe gLe (wC (.int 1)) (wLenN 1) (wC (.int 3)))))) (wRet (wC (.int 0))) wSkip) wb_first_wrong_item_3)
def wb_first_wrong_item : TDS := (wSeq (wSet 1 (wIxN 0 (wC (.int 0)))) wb_first_wrong_item_4)
def wb_kinds : TDS := (wRet (wCB gLen (wCons (wIx (wIxN 0 (wC (.int 0))) (wC (.int 0))) wNil)))
def wb_row_error_1 : TDS := (wIfS (wTNot (wTst (wCall 3 c_is_whole (wCons (wV 3) (wCons (wC (.int 0)) (wCons (wOp gMinus (wV 0) (wC (.int 1))) wNil)))))) (wRet (wTup (wCons (wC (.str ("letter" : Str))) (wCons (wV 2) wNil)))) wSkip)
def wb_row_error_2 : TDS := (wSeq (wFor (wiEn (wCons (wV 1) wNil)) (wgTup 2 (wgCons (wgN 2) (wgCons (wgN 3) wgNil))) wb_row_error_1) (wRet (wC .non)))
def wb_row_error_3 : TDS := (wSeq (wIfS (wTst (wOp gGt (wLenN 1) (wC (.int 40)))) (wRet (wC (.str ("long" : Str)))) wSkip) wb_row_error_2)
def wb_row_error : TDS := (wSeq (wIfS (wTNot (wTst (wCB gIsi (wCons (wV 1) (wCons (wC (.ty "tuple")) wNil))))) (wRet (wC (.str ("form" : Str)))) wSkip) wb_row_error_3)
def wb_law_pick : TDS := (wRet (wIxN 1 (wCall 2 c_law_draw (wCons (wV 0) (wCons (wLenN 1) wNil)))))
def wb_law_known_1 : TDS := (wRet (wTup (wCons (wOp gAdd (wCB gTuple (wCons (wV 3) wNil)) (wTup (wCons (wOp gMul (wTup (wCons (wV 1) wNil)) (wV 1)) wNil))) (wCons (wOp gAdd (wOp gMul (wTup (wCons (wC (.int 1)) wNil)) (wV 1)) (wTup (wCons (wC (.int 0)) wNil))) wNil))))
def wb_law_known_2 : TDS := (wSeq (wSet 3 (wLc (wiR1 (wCons (wV 1) wNil)) (wgN 4) wYes (wCB gTuple (wCons (wLc (wiR1 (wCons (wV 1) wNil)) (wgN 5) wYes (wIf (wTst (wOp gLt (wV 5) (wV 4))) (wV 1) (wV 5)) [5]) wNil)) [4])) wb_law_known_1)
def wb_law_known_3 : TDS := (wSeq (wIfS (wTst (wOp (gEq false) (wV 0) (wC (.str ("next" : Str))))) (wRet (wTup (wCons (wTup (wCons (wOp gAdd (wTup (wCons (wC (.int 1)) wNil)) (wV 2)) (wCons (wSl (wTup (wCons (wC (.int 1)) (wCons (wC (.int 2)) (wCons (wC (.int 0)) wNil)))) woN (woS (wV 1))) (wCons (wOp gMul (wTup (wCons (wC (.int 2)) wNil)) (wV 1)) wNil)))) (wCons (wTup (wCons (wC (.int 0)) (wCons (wC (.int 0)) (wCons (wC (.int 1)) wNil)))) wNil)))) wSkip) wb_law_known_2)
def wb_law_known_4 : TDS := (wSeq (wIfS (wTst (wOp (gEq false) (wV 0) (wC (.str ("parity" : Str))))) (wRet (wTup (wCons (wTup (wCons (wOp gAdd (wTup (wCons (wC (.int 1)) wNil)) (wV 2)) (wCons (wOp gAdd (wTup (wCons (wC (.int 0)) wNil)) (wOp gMul (wTup (wCons (wC (.int 1)) wNil)) (wOp gMinus (wV 1) (wC (.int 1))))) wNil))) (wCons (wTup (wCons (wC (.int 0)) (wCons (wC (.int 1)) wNil))) wNil)))) wSkip) wb_law_known_3)
def wb_law_known_5 : TDS := (wSeq (wIfS (wTst (wOp (gEq false) (wV 0) (wC (.str ("length" : Str))))) (wRet (wTup (wCons (wTup (wCons (wOp gMul (wTup (wCons (wC (.int 1)) wNil)) (wV 1)) (wCons (wOp gMul (wTup (wCons (wC (.int 2)) wNil)) (wV 1)) (wCons (wOp gMul (wTup (wCons (wC (.int 0)) wNil)) (wV 1)) wNil)))) (wCons (wTup (wCons (wC (.int 0)) (wCons (wC (.int 1)) (wCons (wC (.int 2)) wNil)))) wNil)))) wSkip) wb_law_known_4)
def wb_law_known_6 : TDS := (wSeq (wIfS (wTst (wOp (gEq false) (wV 0) (wC (.str ("holds" : Str))))) (wRet (wTup (wCons (wTup (wCons (wOp gAdd (wTup (wCons (wC (.int 1)) wNil)) (wV 2)) (wCons (wOp gMul (wTup (wCons (wC (.int 1)) wNil)) (wV 1)) wNil))) (wCons (wTup (wCons (wC (.int 0)) (wCons (wC (.int 1)) wNil))) wNil)))) wSkip) wb_law_known_5)
def wb_law_known_7 : TDS := (wSeq (wIfS (wTst (wOp (gEq false) (wV 0) (wC (.str ("ends" : Str))))) (wRet (wTup (wCons (wTup (wCons (wOp gAdd (wTup (wCons (wC (.int 1)) wNil)) (wV 2)) (wCons (wOp gAdd (wTup (wCons (wC (.int 1)) wNil)) (wV 2)) wNil))) (wCons (wTup (wCons (wC (.int 0)) (wCons (wC (.int 1)) wNil))) wNil)))) wSkip) wb_law_known_6)
def wb_law_known_8 : TDS := (wSeq (wIfS (wTst (wOp (gEq false) (wV 0) (wC (.str ("count" : Str))))) (wRet (wTup (wCons (wCB gTuple (wCons (wLc (wiR1 (wCons (wC (.int 4)) wNil)) (wgN 4) wYes (wOp gAdd (wTup (wCons (wCB gMin (wCons (wC (.int 3)) (wCons (wOp gAdd (wV 4) (wC (.int 1))) wNil))) wNil)) (wOp gMul (wTup (wCons (wV 4) wNil)) (wOp gMinus (wV 1) (wC (.int 1))))) [4]) wNil)) (wCons (wTup (wCons (wC (.int 0)) (wCons (wC (.int 1)) (wCons (wC (.int 2)) (wCons (wC (.int 3)) wNil))))) wNil)))) wSkip) wb_law_known_7)
def wb_law_known_9 : TDS := (wSeq (wIfS (wTst (wOp (gEq false) (wV 0) (wC (.str ("begins" : Str))))) (wRet (wTup (wCons (wTup (wCons (wOp gAdd (wTup (wCons (wC (.int 1)) wNil)) (wOp gMul (wTup (wCons (wC (.int 2)) wNil)) (wOp gMinus (wV 1) (wC (.int 1))))) (wCons (wOp gMul (wTup (wCons (wC (.int 1)) wNil)) (wV 1)) (wCons (wOp gMul (wTup (wCons (wC (.int 2)) wNil)) (wV 1)) wNil)))) (wCons (wTup (wCons (wC (.int 0)) (wCons (wC (.int 1)) (wCons (wC (.int 0)) wNil)))) wNil)))) wSkip) wb_law_known_8)
def wb_law_known : TDS := (wSeq (wSet 2 (wOp gMul (wTup (wCons (wC (.int 0)) wNil)) (wOp gMinus (wV 1) (wC (.int 1))))) wb_law_known_9)
def wb_law_names : TDS := (wRet (wLst (wCons (wC (.str ("begins" : Str))) (wCons (wC (.str ("count" : Str))) (wCons (wC (.str ("ends" : Str))) (wCons (wC (.str ("holds" : Str))) (wCons (wC (.str ("length" : Str))) (wCons (wC (.str ("next" : Str))) (wCons (wC (.str ("parity" : Str))) (wCons (wC (.str ("sorted" : Str))) wNil))))))))))
def wb_law_any_1 : TDS := (wRet (wTup (wCons (wV 4) (wCons (wCB gTuple (wCons (wLc (wiR1 (wCons (wV 1) wNil)) (wgN 5) wYes (wCall 2 c_law_draw (wCons (wV 0) (wCons (wOp gAdd (wV 3) (wC (.int 1))) wNil))) [5]) wNil)) wNil))))
def wb_law_any : TDS := (wSeq (wSet 4 (wCB gTuple (wCons (wLc (wiR1 (wCons (wV 1) wNil)) (wgN 5) wYes (wCB gTuple (wCons (wLc (wiR1 (wCons (wV 2) wNil)) (wgN 6) wYes (wCall 2 c_law_draw (wCons (wV 0) (wCons (wV 1) wNil))) [6]) wNil)) [5]) wNil))) wb_law_any_1)
def wb_law_growing_1 : TDS := (wDrop (wApp 4 (wCB gTuple (wCons (wV 6) wNil))))
def wb_law_growing_2 : TDS := (wSeq (wIfS (wTst (wOp (gEq false) (wCall 2 c_law_draw (wCons (wV 0) (wCons (wC (.int 6)) wNil))) (wC (.int 0)))) (wAsg (wCall 2 c_law_draw (wCons (wV 0) (wCons (wV 1) wNil))) (wgIx 6 (wCall 2 c_law_draw (wCons (wV 0) (wCons (wV 2) wNil))))) wSkip) wb_law_growing_1)
def wb_law_growing_3 : TDS := (wSeq (wSet 6 (wLc (wiR1 (wCons (wV 2) wNil)) (wgN 7) wYes (wCB gMin (wCons (wOp gMinus (wV 1) (wC (.int 1))) (wCons (wOp gAdd (wV 5) (wCall 2 c_law_draw (wCons (wV 0) (wCons (wC (.int 2)) wNil)))) wNil))) [7])) wb_law_growing_2)
def wb_law_growing_4 : TDS := (wRet (wTup (wCons (wCB gTuple (wCons (wV 4) wNil)) (wCons (wCB gTuple (wCons (wLc (wiR1 (wCons (wV 1) wNil)) (wgN 5) wYes (wCall 2 c_law_draw (wCons (wV 0) (wCons (wOp gAdd (wV 3) (wC (.int 1))) wNil))) [5]) wNil)) wNil))))
def wb_law_growing_5 : TDS := (wSeq (wFor (wiR1 (wCons (wV 1) wNil)) (wgN 5) wb_law_growing_3) wb_law_growing_4)
def wb_law_growing : TDS := (wSeq (wSet 4 (wLst wNil)) wb_law_growing_5)
def wb_law_bent_1 : TDS := (wRet (wTup (wCons (wOp gAdd (wOp gAdd (wSl (wV 5) woN (woS (wV 2))) (wTup (wCons (wV 4) wNil))) (wSl (wV 5) (woS (wOp gAdd (wV 2) (wC (.int 1)))) woN)) (wCons (wV 6) wNil))))
def wb_law_bent_2 : TDS := (wSeq (wSet 4 (wOp gAdd (wOp gAdd (wSl (wIxN 5 (wV 2)) woN (woS (wV 3))) (wTup (wCons (wCall 2 c_law_draw (wCons (wV 0) (wCons (wLenN 5) wNil))) wNil))) (wSl (wIxN 5 (wV 2)) (woS (wOp gAdd (wV 3) (wC (.int 1)))) woN))) wb_law_bent_1)
def wb_law_bent_3 : TDS := (wSeq (wSet 3 (wCall 2 c_law_draw (wCons (wV 0) (wCons (wCB gLen (wCons (wIxN 5 (wC (.int 0))) wNil)) wNil)))) wb_law_bent_2)
def wb_law_bent_4 : TDS := (wSeq (wIfS (wTst (wOp (gEq false) (wCall 2 c_law_draw (wCons (wV 0) (wCons (wC (.int 2)) wNil))) (wC (.int 0)))) (wRet (wTup (wCons (wV 5) (wCons (wOp gAdd (wOp gAdd (wSl (wV 6) woN (woS (wV 2))) (wTup (wCons (wCall 2 c_law_pick (wCons (wV 0) (wCons (wLst (wCons (wC (.int 0)) (wCons (wC (.int 1)) (wCons (wC (.int 2)) (wCons (wC (.int 99)) wNil))))) wNil))) wNil))) (wSl (wV 6) (woS (wOp gAdd (wV 2) (wC (.int 1)))) woN)) wNil)))) wSkip) wb_law_bent_3)
def wb_law_bent_5 : TDS := (wSeq (wSet 2 (wCall 2 c_law_draw (wCons (wV 0) (wCons (wLenN 5) wNil)))) wb_law_bent_4)
def wb_law_bent : TDS := (wSeq (wAsg (wV 1) (wgTup 2 (wgCons (wgN 5) (wgCons (wgN 6) wgNil)))) wb_law_bent_5)
def wb_law_by_length_1 : TDS := (wDrop (wApp 6 (wOp gMinus (wOp gAdd (wOp gMul (wC (.int 2)) (wOp gAdd (wOp gMul (wV 10) (wV 5)) (wV 11))) (wC (.int 1))) (wV 7))))
def wb_law_by_length_2 : TDS := (wDrop (wApp 4 (wIf (wTst (wOp (gEq false) (wV 7) (wC (.int 1)))) (wIx (wIxN 1 (wC (.int 1))) (wV 9)) (wIx (wIxN 0 (wC (.int 1))) (wV 8)))))
def wb_law_by_length_3 : TDS := (wSeq (wDrop (wApp 3 (wCB gTuple (wCons (wV 6) wNil)))) wb_law_by_length_2)
def wb_law_by_length_4 : TDS := (wSeq (wFor (wiZip (wCons (wIx (wIxN 0 (wC (.int 0))) (wV 8)) (wCons (wIx (wIxN 1 (wC (.int 0))) (wV 9)) wNil))) (wgTup 2 (wgCons (wgN 10) (wgCons (wgN 11) wgNil))) wb_law_by_length_1) wb_law_by_length_3)
def wb_law_by_length_5 : TDS := (wSeq (wSet 6 (wLst wNil)) wb_law_by_length_4)
def wb_law_by_length_6 : TDS := (wSeq (wPar3 7 8 9 (wCons (wOp gMod (wV 2) (wC (.int 2))) (wCons (wOp gDiv (wOp gDiv (wV 2) (wC (.int 2))) (wV 5)) (wCons (wOp gMod (wOp gDiv (wV 2) (wC (.int 2))) (wV 5)) wNil)))) wb_law_by_length_5)
def wb_law_by_length_7 : TDS := (wRet (wTup (wCons (wCB gTuple (wCons (wV 3) wNil)) (wCons (wCB gTuple (wCons (wV 4) wNil)) wNil))))
def wb_law_by_length_8 : TDS := (wSeq (wFor (wiR1 (wCons (wOp gMul (wOp gMul (wC (.int 2)) (wCB gLen (wCons (wIxN 0 (wC (.int 0))) wNil))) (wV 5)) wNil)) (wgN 2) wb_law_by_length_6) wb_law_by_length_7)
def wb_law_by_length : TDS := (wSeq (wPar3 3 4 5 (wCons (wLst wNil) (wCons (wLst wNil) (wCons (wCB gLen (wCons (wIxN 1 (wC (.int 0))) wNil)) wNil)))) wb_law_by_length_8)
def wb_law_both_1 : TDS := (wDrop (wApp 6 (wOp gAdd (wOp gMul (wV 9) (wV 3)) (wV 10))))
def wb_law_both_2 : TDS := (wDrop (wApp 5 (wOp gAdd (wOp gMul (wC (.int 10)) (wIx (wIxN 0 (wC (.int 1))) (wV 7))) (wIx (wIxN 1 (wC (.int 1))) (wV 8)))))
def wb_law_both_3 : TDS := (wSeq (wDrop (wApp 4 (wCB gTuple (wCons (wV 6) wNil)))) wb_law_both_2)
def wb_law_both_4 : TDS := (wSeq (wFor (wiZip (wCons (wIx (wIxN 0 (wC (.int 0))) (wV 7)) (wCons (wIx (wIxN 1 (wC (.int 0))) (wV 8)) wNil))) (wgTup 2 (wgCons (wgN 9) (wgCons (wgN 10) wgNil))) wb_law_both_1) wb_law_both_3)
def wb_law_both_5 : TDS := (wSeq (wSet 6 (wLst wNil)) wb_law_both_4)
def wb_law_both_6 : TDS := (wSeq (wPar2 7 8 (wCons (wOp gDiv (wV 2) (wV 3)) (wCons (wOp gMod (wCB gInt (wCons (wV 2) wNil)) (wV 3)) wNil))) wb_law_both_5)
def wb_law_both_7 : TDS := (wRet (wTup (wCons (wCB gTuple (wCons (wV 4) wNil)) (wCons (wCB gTuple (wCons (wV 5) wNil)) wNil))))
def wb_law_both_8 : TDS := (wSeq (wFor (wiR1 (wCons (wOp gMul (wCB gLen (wCons (wIxN 0 (wC (.int 0))) wNil)) (wV 3)) wNil)) (wgN 2) wb_law_both_6) wb_law_both_7)
def wb_law_both : TDS := (wSeq (wPar3 3 4 5 (wCons (wCB gLen (wCons (wIxN 1 (wC (.int 0))) wNil)) (wCons (wLst wNil) (wCons (wLst wNil) wNil)))) wb_law_both_8)
def wb_law_machine_1 : TDS := (wRet (wCall 2 c_law_by_length (wCons (wCall 4 c_law_any (wCons (wV 0) (wCons (wOp gAdd (wC (.int 1)) (wCall 2 c_law_draw (wCons (wV 0) (wCons (wC (.int 3)) wNil)))) (wCons (wV 4) (wCons (wC (.int 1)) wNil))))) (wCons (wCall 2 c_law_bent (wCons (wV 0) (wCons (wV 3) wNil))) wNil))))
def wb_law_machine_2 : TDS := (wSeq (wIfS (wTst (wOp (gEq false) (wV 1) (wC (.int 8)))) (wRet (wCall 2 c_law_by_length (wCons (wV 2) (wCons (wV 3) wNil)))) wSkip) wb_law_machine_1)
def wb_law_machine_3 : TDS := (wSeq (wIfS (wTOr (wTst (wOp (gEq false) (wV 1) (wC (.int 7)))) (wTAnd (wTst (wOp (gEq false) (wV 1) (wC (.int 8)))) (wTst (wOp gGt (wOp gMul (wCB gLen (wCons (wIxN 2 (wC (.int 0))) wNil)) (wCB gLen (wCons (wIxN 3 (wC (.int 0))) wNil))) (wC (.int 12)))))) (wRet (wCall 2 c_law_both (wCons (wV 2) (wCons (wV 3) wNil)))) wSkip) wb_law_machine_2)
def wb_law_machine_4 : TDS := (wSeq (wSet 3 (wCall 2 c_law_known (wCons (wCall 2 c_law_pick (wCons (wV 0) (wCons (wLst (wCons (wC (.str ("holds" : Str))) (wCons (wC (.str ("next" : Str))) (wCons (wC (.str ("begins" : Str))) (wCons (wC (.str ("sorted" : Str))) wNil))))) wNil))) (wCons (wV 4) wNil)))) wb_law_machine_3)
def wb_law_machine_5 : TDS := (wSeq (wIfS (wTst (wOp (gEq false) (wV 1) (wC (.int 6)))) (wRet (wCall 2 c_law_bent (wCons (wV 0) (wCons (wV 2) wNil)))) wSkip) wb_law_machine_4)
def wb_law_machine_6 : TDS := (wSeq (wIfS (wTst (wOp (gEq false) (wV 1) (wC (.int 5)))) (wRet (wV 2)) wSkip) wb_law_machine_5)
def wb_law_machine_7 : TDS := (wSeq (wSet 2 (wCall 2 c_law_known (wCons (wCall 2 c_law_pick (wCons (wV 0) (wCons (wCall0 c_law_names) wNil))) (wCons (wV 4) wNil)))) wb_law_machine_6)
def wb_law_machine_8 : TDS := (wSeq (wIfS (wTst (wOp gLt (wV 1) (wC (.int 5)))) (wRet (wCall 4 c_law_growing (wCons (wV 0) (wCons (wV 5) (wCons (wV 4) (wCons (wV 6) wNil)))))) wSkip) wb_law_machine_7)
def wb_law_machine_9 : TDS := (wSeq (wIfS (wTst (wOp gLt (wV 1) (wC (.int 2)))) (wRet (wCall 4 c_law_any (wCons (wV 0) (wCons (wIf (wTOr (wTst (wOp (gEq false) (wV 4) (wC (.int 3)))) (wTst (wOp (gEq false) (wCall 2 c_law_draw (wCons (wV 0) (wCons (wC (.int 3)) wNil))) (wC (.int 0))))) (wCB gMin (wCons (wC (.int 3)) (wCons (wV 5) wNil))) (wV 5)) (wCons (wV 4) (wCons (wV 6) wNil)))))) wSkip) wb_law_machine_8)
def wb_law_machine_10 : TDS := (wSeq (wSet 1 (wCall 2 c_law_draw (wCons (wV 0) (wCons (wC (.int 10)) wNil)))) wb_law_machine_9)
def wb_law_machine : TDS := (wSeq (wPar3 4 5 6 (wCons (wCall 2 c_law_pick (wCons (wV 0) (wCons (wLst (wCons (wC (.int 2)) (wCons (wC (.int 2)) (wCons (wC (.int 2)) (wCons (wC (.int 2)) (wCons (wC (.int 1)) (wCons (wC (.int 3)) wNil))))))) wNil))) (wCons (wOp gAdd (wC (.int 2)) (wCall 2 c_law_draw (wCons (wV 0) (wCons (wC (.int 4)) wNil)))) (wCons (wCall 2 c_law_pick (wCons (wV 0) (wCons (wLst (wCons (wC (.int 1)) (wCons (wC (.int 2)) (wCons (wC (.int 99)) wNil)))) wNil))) wNil)))) wb_law_machine_10)
def wb_law_row : TDS := (wRet (wCB gTuple (wCons (wLc (wiR1 (wCons (wV 2) wNil)) (wgN 3) wYes (wCall 2 c_law_draw (wCons (wV 0) (wCons (wV 1) wNil))) [3]) wNil)))
def wb_law_split_1 : TDS := (wDrop (wApp 5 (wCall 2 c_law_draw (wCons (wV 0) (wCons (wLenN 8) wNil)))))
def wb_law_split_2 : TDS := (wDrop (wApp 5 (wPop 4 (wCall 2 c_law_draw (wCons (wV 0) (wCons (wLenN 4) wNil))))))
def wb_law_split_3 : TDS := (wDrop (wApp 10 (wLc (wiR1 (wCons (wLenN 5) wNil)) (wgN 11) (wTst (wOp (gEq false) (wIxN 5 (wV 11)) (wV 6))) (wV 11) [11])))
def wb_law_split_4 : TDS := (wRet (wTup (wCons (wCB gTuple (wCons (wV 7) wNil)) (wCons (wCB gTuple (wCons (wLc (wiSeq (wV 5)) (wgN 6) wYes (wIxN 9 (wV 6)) [6]) wNil)) wNil))))
def wb_law_split_5 : TDS := (wSeq (wSet 7 (wLc (wiSeq (wV 5)) (wgN 6) wYes (wCB gTuple (wCons (wLc (wiSeq (wIxN 8 (wV 6))) (wgN 12) wYes (wCall 2 c_law_pick (wCons (wV 0) (wCons (wIxN 10 (wV 12)) wNil))) [12]) wNil)) [6])) wb_law_split_4)
def wb_law_split_6 : TDS := (wSeq (wFor (wiR1 (wCons (wLenN 8) wNil)) (wgN 6) wb_law_split_3) wb_law_split_5)
def wb_law_split_7 : TDS := (wSeq (wFor (wiR1 (wCons (wLenN 4) wNil)) (wgN 3) wb_law_split_2) wb_law_split_6)
def wb_law_split_8 : TDS := (wSeq (wSet 5 (wLst (wCons (wC (.int 0)) wNil))) wb_law_split_7)
def wb_law_split_9 : TDS := (wSeq (wSet 4 (wSl (wV 5) (woS (wC (.int 1))) woN)) wb_law_split_8)
def wb_law_split_10 : TDS := (wSeq (wFor (wiR1 (wCons (wOp gMinus (wV 2) (wLenN 8)) wNil)) (wgN 3) wb_law_split_1) wb_law_split_9)
def wb_law_split_11 : TDS := (wSeq (wPar2 5 10 (wCons (wListR1 (wLenN 8)) (wCons (wLst wNil) wNil))) wb_law_split_10)
def wb_law_split : TDS := (wSeq (wAsg (wV 1) (wgTup 2 (wgCons (wgN 8) (wgCons (wgN 9) wgNil)))) wb_law_split_11)
def wb_law_wide_1 : TDS := (wRet (wCall 3 c_law_split (wCons (wV 0) (wCons (wV 1) (wCons (wOp gAdd (wCB gLen (wCons (wIxN 1 (wC (.int 0))) wNil)) (wCall 2 c_law_pick (wCons (wV 0) (wCons (wLst (wCons (wC (.int 0)) (wCons (wV 2) (wCons (wCall 2 c_law_draw (wCons (wV 0) (wCons (wOp gAdd (wV 2) (wC (.int 1))) wNil))) wNil)))) wNil)))) wNil)))))
def wb_law_wide : TDS := (wSeq (wSet 2 (wOp gMinus (wC (.int 24)) (wCB gLen (wCons (wIxN 1 (wC (.int 0))) wNil)))) wb_law_wide_1)
def wb_law_is_number : TDS := (wRet (wAndV (wCB gIsi (wCons (wV 0) (wCons (wC (.ty "int")) wNil))) (wAndV (wNotV (wCB gIsi (wCons (wV 0) (wCons (wC (.ty "bool")) wNil)))) (wChain gLe gLe (wV 1) (wV 0) (wV 2)))))
def wb_law_fault_1 : TDS := (wIfS (wTst (wOp (gEq true) (wLc (wiSeq (wV 6)) (wgN 7) (wTNot (wTst (wCall 3 c_law_is_number (wCons (wV 7) (wCons (wC (.int 0)) (wCons (wOp gMinus (wLenN 3) (wC (.int 1))) wNil)))))) (wV 7) [7]) (wLst wNil))) (wRet (wTup (wCons (wC (.str ("moves" : Str))) (wCons (wV 5) wNil)))) wSkip)
def wb_law_fault_2 : TDS := (wSeq (wIfS (wTOr (wTNot (wTst (wCB gIsi (wCons (wV 6) (wCons (wC (.ty "tuple")) wNil))))) (wTOr (wTNot (wTst (wChain gLe gLe (wC (.int 1)) (wV 1) (wC (.int 3))))) (wTst (wOp (gEq true) (wLenN 6) (wV 1))))) (wRet (wTup (wCons (wC (.str ("moves" : Str))) (wCons (wV 5) wNil)))) wSkip) wb_law_fault_1)
def wb_law_fault_3 : TDS := (wRet (wIf (wTst (wOp (gEq false) (wV 2) (wLst wNil))) (wC .non) (wTup (wCons (wC (.str ("tell" : Str))) (wCons (wIxN 2 (wC (.int 0))) wNil)))))
def wb_law_fault_4 : TDS := (wSeq (wSet 2 (wLc (wiR1 (wCons (wLenN 4) wNil)) (wgN 5) (wTNot (wTst (wCall 3 c_law_is_number (wCons (wIxN 4 (wV 5)) (wCons (wC (.int 0)) (wCons (wC (.int 99)) wNil)))))) (wV 5) [5])) wb_law_fault_3)
def wb_law_fault_5 : TDS := (wSeq (wIfS (wTst (wOp (gEq true) (wLenN 4) (wLenN 3))) (wRet (wC (.str ("tells" : Str)))) wSkip) wb_law_fault_4)
def wb_law_fault_6 : TDS := (wSeq (wFor (wiEn (wCons (wV 3) wNil)) (wgTup 2 (wgCons (wgN 5) (wgCons (wgN 6) wgNil))) wb_law_fault_2) wb_law_fault_5)
def wb_law_fault_7 : TDS := (wSeq (wSet 1 (wIf (wTst (wCB gIsi (wCons (wIxN 3 (wC (.int 0))) (wCons (wC (.ty "tuple")) wNil)))) (wCB gLen (wCons (wIxN 3 (wC (.int 0))) wNil)) (wC (.int 0)))) wb_law_fault_6)
def wb_law_fault_8 : TDS := (wSeq (wIfS (wTNot (wTst (wChain gLe gLe (wC (.int 1)) (wLenN 3) (wC (.int 24))))) (wRet (wC (.str ("states" : Str)))) wSkip) wb_law_fault_7)
def wb_law_fault_9 : TDS := (wSeq (wIfS (wTOr (wTNot (wTst (wCB gIsi (wCons (wV 3) (wCons (wC (.ty "tuple")) wNil))))) (wTNot (wTst (wCB gIsi (wCons (wV 4) (wCons (wC (.ty "tuple")) wNil)))))) (wRet (wC (.str ("form" : Str)))) wSkip) wb_law_fault_8)
def wb_law_fault_10 : TDS := (wSeq (wAsg (wV 0) (wgTup 2 (wgCons (wgN 3) (wgCons (wgN 4) wgNil)))) wb_law_fault_9)
def wb_law_fault : TDS := (wSeq (wIfS (wTOr (wTNot (wTst (wCB gIsi (wCons (wV 0) (wCons (wC (.ty "tuple")) wNil))))) (wTst (wOp (gEq true) (wLenN 0) (wC (.int 2))))) (wRet (wC (.str ("form" : Str)))) wSkip) wb_law_fault_10)
def wb_law_row_fault_1 : TDS := (wRet (wIf (wTst (wOp (gEq false) (wV 2) (wLst wNil))) (wC .non) (wTup (wCons (wC (.str ("letter" : Str))) (wCons (wIxN 2 (wC (.int 0))) wNil)))))
def wb_law_row_fault_2 : TDS := (wSeq (wSet 2 (wLc (wiR1 (wCons (wLenN 1) wNil)) (wgN 3) (wTNot (wTst (wCall 3 c_law_is_number (wCons (wIxN 1 (wV 3)) (wCons (wC (.int 0)) (wCons (wOp gMinus (wV 0) (wC (.int 1))) wNil)))))) (wV 3) [3])) wb_law_row_fault_1)
def wb_law_row_fault_3 : TDS := (wSeq (wIfS (wTst (wOp gGt (wLenN 1) (wC (.int 40)))) (wRet (wC (.str ("long" : Str)))) wSkip) wb_law_row_fault_2)
def wb_law_row_fault : TDS := (wSeq (wIfS (wTNot (wTst (wCB gIsi (wCons (wV 1) (wCons (wC (.ty "tuple")) wNil))))) (wRet (wC (.str ("form" : Str)))) wSkip) wb_law_row_fault_3)
def wb_law_odd : TDS := (wRet (wCall 2 c_law_pick (wCons (wV 0) (wCons (wLst (wCons (wV 1) (wCons (wNeg (wC (.int 1))) (wCons (wC (.bl true)) (wCons (wC (.bl false)) (wCons (wC .non) (wCons (wC (.str ("0" : Str))) (wCons (wTup (wCons (wC (.int 0)) wNil)) (wCons (wLst (wCons (wC (.int 0)) wNil)) (wCons (wOp gAdd (wV 1) (wC (.int 1))) (wCons (wOp gPow (wC (.int 10)) (wC (.int 60))) (wCons wDct (wCons (wTup wNil) wNil))))))))))))) wNil))))
def wb_law_with : TDS := (wRet (wOp gAdd (wOp gAdd (wSl (wV 0) woN (woS (wV 1))) (wTup (wCons (wV 2) wNil))) (wSl (wV 0) (woS (wOp gAdd (wV 1) (wC (.int 1)))) woN)))
def wb_law_spoilt_1 : TDS := (wRet (wTup (wCons (wCall 3 c_law_with (wCons (wV 4) (wCons (wV 6) (wCons (wV 8) wNil)))) (wCons (wV 5) wNil))))
def wb_law_spoilt_2 : TDS := (wRet (wTup (wCons (wCB gTuple (wCons (wLc (wiSeq (wV 4)) (wgN 11) wYes (wOp gMul (wTup (wCons (wC (.int 0)) wNil)) (wV 9)) [11]) wNil)) (wCons (wV 5) wNil))))
def wb_law_spoilt_3 : TDS := (wRet (wTup (wCons (wOp gMul (wTup (wCons (wV 2) wNil)) (wV 10)) (wCons (wOp gMul (wTup (wCons (wCall 2 c_law_pick (wCons (wV 0) (wCons (wLst (wCons (wC (.int 0)) (wCons (wC (.int 99)) (wCons (wC (.int 100)) wNil)))) wNil))) wNil)) (wV 10)) wNil))))
def wb_law_spoilt_4 : TDS := (wRet (wTup (wCons (wSl (wV 4) woN (woS (wNeg (wC (.int 1))))) (wCons (wV 5) wNil))))
def wb_law_spoilt_5 : TDS := (wSeq (wIfS (wTst (wOp (gEq false) (wV 7) (wC (.int 9)))) (wRet (wTup (wCons (wTup wNil) (wCons (wCall 2 c_law_pick (wCons (wV 0) (wCons (wLst (wCons (wTup wNil) (wCons (wV 5) wNil))) wNil))) wNil)))) wSkip) wb_law_spoilt_4)
def wb_law_spoilt_6 : TDS := (wSeq (wIfS (wTst (wOp (gEq false) (wV 7) (wC (.int 8)))) (wRet (wTup (wCons (wCall 3 c_law_with (wCons (wV 4) (wCons (wC (.int 0)) (wCons (wCall 2 c_law_pick (wCons (wV 0) (wCons (wLst (wCons (wTup wNil) (wCons (wTup (wCons (wC (.int 0)) wNil)) (wCons (wTup (wCons (wC (.int 0)) (wCons (wC (.int 0)) wNil))) (wCons (wTup (wCons (wC (.int 0)) (wCons (wC (.int 0)) (wCons (wC (.int 0)) wNil)))) (wCons (wLst (wCons (wC (.int 0)) wNil)) (wCons (wC (.int 0)) wNil))))))) wNil))) wNil)))) (wCons (wV 5) wNil)))) wSkip) wb_law_spoilt_5)
def wb_law_spoilt_7 : TDS := (wSeq (wIfS (wTst (wOp (gEq false) (wV 7) (wC (.int 7)))) (wSeq (wSet 10 (wCall 2 c_law_pick (wCons (wV 0) (wCons (wLst (wCons (wC (.int 24)) (wCons (wC (.int 25)) (wCons (wC (.int 30)) wNil)))) wNil)))) wb_law_spoilt_3) wSkip) wb_law_spoilt_6)
def wb_law_spoilt_8 : TDS := (wSeq (wIfS (wTst (wOp (gEq false) (wV 7) (wC (.int 6)))) (wSeq (wSet 9 (wCall 2 c_law_pick (wCons (wV 0) (wCons (wLst (wCons (wC (.int 0)) (wCons (wC (.int 4)) (wCons (wC (.int 1)) (wCons (wC (.int 2)) (wCons (wC (.int 3)) wNil)))))) wNil)))) wb_law_spoilt_2) wSkip) wb_law_spoilt_7)
def wb_law_spoilt_9 : TDS := (wSeq (wIfS (wTst (wOp (gEq false) (wV 7) (wC (.int 5)))) (wRet (wTup (wCons (wV 4) (wCons (wCall 2 c_law_pick (wCons (wV 0) (wCons (wLst (wCons (wSl (wV 5) woN (woS (wNeg (wC (.int 1))))) (wCons (wOp gAdd (wV 5) (wTup (wCons (wC (.int 0)) wNil))) (wCons (wTup wNil) wNil)))) wNil))) wNil)))) wSkip) wb_law_spoilt_8)
def wb_law_spoilt_10 : TDS := (wSeq (wIfS (wTst (wOp (gEq false) (wV 7) (wC (.int 4)))) (wSeq (wSet 8 (wCall 2 c_law_pick (wCons (wV 0) (wCons (wLst (wCons (wCB gList (wCons (wV 2) wNil)) (wCons (wSl (wV 2) woN (woS (wNeg (wC (.int 1))))) (wCons (wOp gAdd (wV 2) (wTup (wCons (wC (.int 0)) wNil))) (wCons (wC .non) (wCons (wTup (wCons (wC (.int 0)) (wCons (wC (.int 0)) (wCons (wC (.int 0)) (wCons (wC (.int 0)) wNil))))) wNil)))))) wNil)))) wb_law_spoilt_1) wSkip) wb_law_spoilt_9)
def wb_law_spoilt_11 : TDS := (wSeq (wIfS (wTst (wOp gLt (wV 7) (wC (.int 4)))) (wRet (wTup (wCons (wV 4) (wCons (wCall 3 c_law_with (wCons (wV 5) (wCons (wCall 2 c_law_draw (wCons (wV 0) (wCons (wCB gMax (wCons (wC (.int 1)) (wCons (wLenN 5) wNil))) wNil))) (wCons (wCall 2 c_law_odd (wCons (wV 0) (wCons (wC (.int 100)) wNil))) wNil)))) wNil)))) wSkip) wb_law_spoilt_10)
def wb_law_spoilt_12 : TDS := (wSeq (wIfS (wTst (wOp gLt (wV 7) (wC (.int 2)))) (wRet (wTup (wCons (wCall 3 c_law_with (wCons (wV 4) (wCons (wV 6) (wCons (wCall 3 c_law_with (wCons (wV 2) (wCons (wV 3) (wCons (wCall 2 c_law_odd (wCons (wV 0) (wCons (wLenN 4) wNil))) wNil)))) wNil)))) (wCons (wV 5) wNil)))) wSkip) wb_law_spoilt_11)
def wb_law_spoilt_13 : TDS := (wSeq (wSet 3 (wCall 2 c_law_draw (wCons (wV 0) (wCons (wCB gMax (wCons (wC (.int 1)) (wCons (wLenN 2) wNil))) wNil)))) wb_law_spoilt_12)
def wb_law_spoilt_14 : TDS := (wSeq (wSet 2 (wIf (wTAnd (wTst (wOp gLt (wV 6) (wLenN 4))) (wTst (wCB gIsi (wCons (wIxN 4 (wV 6)) (wCons (wC (.ty "tuple")) wNil))))) (wIxN 4 (wV 6)) (wTup (wCons (wC (.int 0)) wNil)))) wb_law_spoilt_13)
def wb_law_spoilt_15 : TDS := (wSeq (wPar2 6 7 (wCons (wCall 2 c_law_draw (wCons (wV 0) (wCons (wCB gMax (wCons (wC (.int 1)) (wCons (wLenN 4) wNil))) wNil))) (wCons (wCall 2 c_law_draw (wCons (wV 0) (wCons (wC (.int 11)) wNil))) wNil))) wb_law_spoilt_14)
def wb_law_spoilt : TDS := (wSeq (wAsg (wV 1) (wgTup 2 (wgCons (wgN 4) (wgCons (wgN 5) wgNil)))) wb_law_spoilt_15)
def wb_law_no_pair_1 : TDS := (wRet (wCall 2 c_law_pick (wCons (wV 0) (wCons (wOp gAdd (wV 2) (wLst (wCons (wC (.int 7)) (wCons wDct (wCons (wTup wNil) (wCons (wV 3) (wCons (wV 1) (wCons (wTup (wCons (wV 4) (wCons (wV 3) wNil))) (wCons (wDct1 3) wNil))))))))) wNil))))
def wb_law_no_pair_2 : TDS := (wSeq (wSet 2 (wLst (wCons (wCB gList (wCons (wV 1) wNil)) (wCons (wTup (wCons (wV 3) wNil)) (wCons (wTup (wCons (wV 3) (wCons (wV 4) (wCons (wTup wNil) wNil)))) (wCons (wTup (wCons (wCB gList (wCons (wV 3) wNil)) (wCons (wV 4) wNil))) (wCons (wTup (wCons (wV 3) (wCons (wCB gList (wCons (wV 4) wNil)) wNil))) (wCons (wC .non) (wCons (wC (.str ("teller" : Str))) wNil))))))))) wb_law_no_pair_1)
def wb_law_no_pair : TDS := (wSeq (wAsg (wV 1) (wgTup 2 (wgCons (wgN 3) (wgCons (wgN 4) wgNil)))) wb_law_no_pair_2)
def wb_law_rows_1 : TDS := (wRet (wLst (wCons (wV 2) (wCons (wV 4) (wCons (wOp gAdd (wV 4) (wTup (wCons (wCall 2 c_law_odd (wCons (wV 0) (wCons (wV 1) wNil))) wNil))) (wCons (wCB gList (wCons (wV 2) wNil)) (wCons (wCall 2 c_law_pick (wCons (wV 0) (wCons (wLst (wCons (wC .non) (wCons (wC (.str ("01" : Str))) (wCons (wC (.int 0)) (wCons wDct (wCons (wC (.bl true)) wNil)))))) wNil))) wNil)))))))
def wb_law_rows_2 : TDS := (wSeq (wSet 4 (wOp gAdd (wOp gAdd (wSl (wV 2) woN (woS (wV 3))) (wTup (wCons (wCall 2 c_law_odd (wCons (wV 0) (wCons (wV 1) wNil))) wNil))) (wSl (wV 2) (woS (wOp gAdd (wV 3) (wC (.int 1)))) woN))) wb_law_rows_1)
def wb_law_rows_3 : TDS := (wSeq (wSet 3 (wCall 2 c_law_draw (wCons (wV 0) (wCons (wOp gAdd (wLenN 2) (wC (.int 1))) wNil)))) wb_law_rows_2)
def wb_law_rows : TDS := (wSeq (wSet 2 (wCall 3 c_law_row (wCons (wV 0) (wCons (wV 1) (wCons (wCall 2 c_law_pick (wCons (wV 0) (wCons (wLst (wCons (wCall 2 c_law_draw (wCons (wV 0) (wCons (wC (.int 6)) wNil))) (wCons (wC (.int 40)) (wCons (wC (.int 39)) (wCons (wC (.int 41)) (wCons (wCall 2 c_law_draw (wCons (wV 0) (wCons (wC (.int 42)) wNil))) wNil)))))) wNil))) wNil))))) wb_law_rows_3)
def wb_law_1 : TDS := (wIfS (wTst (wOp (gEq true) (wCB gRepr (wCons (wCall 1 c_teller_error (wCons (wV 5) wNil)) wNil)) (wCB gRepr (wCons (wCall 1 c_law_fault (wCons (wV 5) wNil)) wNil)))) (wRet (wC (.bl false))) wSkip)
def wb_law_2 : TDS := (wIfS (wTst (wOp (gEq true) (wCB gRepr (wCons (wCall 2 c_row_error (wCons (wV 3) (wCons (wV 5) wNil))) wNil)) (wCB gRepr (wCons (wCall 2 c_law_row_fault (wCons (wV 3) (wCons (wV 5) wNil))) wNil)))) (wRet (wC (.bl false))) wSkip)
def wb_law_3 : TDS := (wSeq (wFor (wiSeq (wOp gAdd (wCall 2 c_law_rows (wCons (wV 1) (wCons (wV 3) wNil))) (wLst (wCons (wTup wNil) (wCons (wTup (wCons (wOp gMinus (wV 3) (wC (.int 1))) wNil)) (wCons (wTup (wCons (wV 3) wNil)) wNil)))))) (wgN 5) wb_law_2) (wRet (wC (.bl true))))
def wb_law_4 : TDS := (wSeq (wIfS (wTst (wOp (gEq true) (wCB gRepr (wCons (wCall 1 c_kinds (wCons (wV 2) wNil)) wNil)) (wCB gRepr (wCons (wV 3) wNil)))) (wRet (wC (.bl false))) wSkip) wb_law_3)
def wb_law_5 : TDS := (wSeq (wFor (wiSeq (wV 4)) (wgN 5) wb_law_1) wb_law_4)
def wb_law_6 : TDS := (wSeq (wSet 4 (wOp gAdd (wV 4) (wLst (wCons (wCall 2 c_law_no_pair (wCons (wV 1) (wCons (wV 2) wNil))) (wCons (wCall 2 c_law_spoilt (wCons (wV 1) (wCons (wV 2) wNil))) (wCons (wV 2) wNil)))))) wb_law_5)
def wb_law_7 : TDS := (wSeq (wDrop (wApp 4 (wCall 2 c_law_spoilt (wCons (wV 1) (wCons (wIxN 4 (wC (.int 1))) wNil))))) wb_law_6)
def wb_law_8 : TDS := (wSeq (wSet 4 (wLst (wCons (wV 2) (wCons (wCall 2 c_law_spoilt (wCons (wV 1) (wCons (wV 2) wNil))) wNil)))) wb_law_7)
def wb_law_9 : TDS := (wSeq (wSet 3 (wCB gLen (wCons (wIx (wIxN 2 (wC (.int 0))) (wC (.int 0))) wNil))) wb_law_8)
def wb_law_10 : TDS := (wSeq (wSet 2 (wCall 2 c_law_wide (wCons (wV 1) (wCons (wCall 1 c_law_machine (wCons (wV 1) wNil)) wNil)))) wb_law_9)
def wb_law : TDS := (wSeq (wSet 1 (wCall 1 c_law_bag (wCons (wV 0) wNil))) wb_law_10)
end Ly

namespace Ly
open PySem PySem.Spec PyProof.Rows L2
/-! ### a def that is called where nothing is being shown -/
structure FnG (P : Program) (w : World) (K : PySem.W.Frag) (mg : Str → Option Value) (base : Heap) (k : Nat) (f : Addr) (fd : FuncData) (ps : List Str) (sp : Sp) : Prop where
  go : ∀ (a : Around) (out : List Env) (s : Shared) (H : Hp) (ar : Args) (us : List Value) (vs : List V) (Q : VK) (E : XK), a.guards = some [] → Room k a → Env0 P w K mg base a out s H → BindsTo s fd ar (ps.zip us) → Vals vs us → sp vs H Q E →
    codeAny (model P w) a (.call (.ref f) ar) (CR CX0 out P w H s Q E) s
theorem guards_deeper {a : Around} {env : Env} (h : a.guards = some []) : (a.deeper env).guards = some [] := by
  first | exact h | (show Option.map _ _ = _; rw [h]; rfl) | simp [Around.deeper, h]
theorem okG {P : Program} {w : World} {K : PySem.W.Frag} {mg : Str → Option Value} {base : Heap} {x qual : Str} {st : Stmt} {f : Addr} {fd : FuncData} {N ps : List Str} {k : Nat} {sp : Sp} (F : Fun K x qual st f fd) (S : FnScope N ps (defScope st))
    (ln : ∀ vs H Q E, sp vs H Q E → vs.length = ps.length)
    (hb : ∀ (cd : Value) (a : Around) (out : List Env) (s : Shared) (H : Hp) (vs : List V) (Q : VK) (E : XK), (a.deeper (envOfC qual (defScope st) s.heap.objs.size f cd)).guards = some [] → Room k (a.deeper (envOfC qual (defScope st) s.heap.objs.size f cd)) → sp vs H Q E →
      ∃ t, PSs (cxOf CX0 P w K mg base N qual (defScope st) f cd a out s H E).nox (defBody st) t ∧ t { nx := fun _ G => Q .non G, rt := Q } (start N vs) H) : FnG P w K mg base (k + 1) f fd ps sp := by
  obtain ⟨oc, od, kV, dc, pm, an, cd, ct, osl, rfl, lk, hcd⟩ := F.ex
  refine ⟨fun a out s H ar us vs Q E ga hr e0 hbd rv hsp => ?_⟩
  have hl := ln vs H Q E hsp
  have kin : K.In s.heap := e0.mod.kin.keeps fun c o e => (e0.bs c o e).1
  have lim : Heap.NoLimit s.heap := e0.mod.nolimit.keeps fun c o e => (e0.bs c o e).1
  have kinds : ∀ y ∈ ps.zip us, (defScope st).names.lookup y.1 = some .local ∨ ((defScope st).names.lookup y.1 = some .cell ∧ ((cellsFrom (s.heap.objs.size + 1) (defScope st).names []).lookup y.1).isSome = true) := by
    rintro ⟨m, v⟩ hy
    rcases S.par m (List.of_mem_zip hy).1 with z | z
    · exact Or.inl z
    · exact Or.inr ⟨z, PySem.W.cellsFrom_some _ _ _ (.inl z)⟩
  refine codeAny_call_function hr.depth (kin _ _ lk) rfl S.co S.gen rfl (PySem.W.codeRec_of kin hcd) (hbd _ _ _ _ ?_)
  refine wpAny_newFunctionEnv_cells S.kind kinds fun env he s1 x1 => ?_
  cases he
  refine ⟨lim.keeps x1.toInCall.keep, codeAny_func ?_⟩
  obtain ⟨t, ht, hq⟩ := hb cd a out s H vs Q E (guards_deeper ga) (hr.deeper _) hsp
  have i0 : Inv (cxOf CX0 P w K mg base N qual (defScope st) f cd a out s H E) [] (start N vs) H s1 := inv_start S hr.hd e0 hl rv x1
  refine wpAny_mono (ht.nox.run [] s1 (start N vs) H _ i0 hq) (fun fl s2 z => ?_) fun _ _ z => z
  rcases fl with _ | _ | _ | u
  all_goals first
    | (obtain ⟨_, _, _, q⟩ := z; exact q.elim)
    | (obtain ⟨v, σ2, H2, J, r2, q⟩ := z; exact ⟨v, H2, J.os, J.bare, J.base, J.hok, r2, q⟩)
    | (obtain ⟨σ2, H2, J, q⟩ := z; exact ⟨V.non, H2, J.os, J.bare, J.base, J.hok, rfl, q⟩)
/-- a def over data -/
theorem def_okG {P : Program} {w : World} {K : PySem.W.Frag} {mg : Str → Option Value} {base : Heap} {x qual : Str} {st : Stmt} {f : Addr} {fd : FuncData} {N ps : List Str} {k m : Nat} {c : Ctr} {wb : TDS} (F : Fun K x qual st f fd) (S : FnScope N ps (defScope st)) (hm : ps.length = m)
    (hbody : ∀ (cdv : Value) (A : Around) (outer : List Env) (s : Shared) (H : Hp) (E : XK) (B : Bs), (A.deeper (envOfC qual (defScope st) s.heap.objs.size f cdv)).guards = some [] → Room k (A.deeper (envOfC qual (defScope st) s.heap.objs.size f cdv)) → DSs (cxOf CX0 P w K mg base N qual (defScope st) f cdv A outer s H E).nox B (defBody st) wb)
    (hc : ∀ ds n Q, ds.length = m → c ds n Q → wb { nx := fun _ n' => Q .non n', rt := Q } (startD N ds) n) : FnG P w K mg base (k + 1) f fd ps (spC K m c) := by
  refine okG F S (fun vs H Q E ⟨G, ds, n, Q', g, hl, rl, hc, hq⟩ => by rw [rl.length, hl, hm]) (fun cdv A outer s H vs Q E hg hr ⟨G, ds, n, Q', g, hl, rl, h1, hq⟩ => ?_)
  exact ⟨_, hbody cdv A outer s H E (G, H) hg hr, G, startD N ds, n, [], _, envOk_start g rl, hc ds n Q' hl h1, fun σ' ρ' n' G' H' h2 e2 => hq .non n' .non G' H' h2 e2.gr e2.bg e2.fh .non,
    fun d n' v G' H' σ' ρ' h2 r2 e2 => hq d n' v G' H' h2 e2.gr e2.bg e2.fh r2, fun _ _ _ _ _ z => z.elim, fun _ _ _ _ _ z => z.elim⟩
end Ly

namespace Ly
open PySem PySem.Spec PyProof.Rows L2
/-! ### the law's own call, from a promise that holds where nothing is being shown -/
theorem callG {P : Program} {w : World} {K : PySem.W.Frag} {mg mb : Str → Option Value} {k : Nat} {fa a : Addr} {fd : FuncData} {x : Str} {sp : Sp} {s₀ : Shared} {vs : List Value} {ns : List Int}
    (kin : K.In s₀.heap) (hm : s₀.heap.Ns mainGlobals mg) (hb : s₀.heap.Ns builtinsNs mb) (boot : ∀ y : Str, y ≠ "__name__" → mb y = bootBuiltins y) (lim : s₀.heap.NoLimit) (gens : s₀.gens = #[])
    (ha : s₀.heap.get? a = some { cls := .type "list", data := .seq vs.toArray }) (hi : IntsAre vs ns) (hl : ns.length ≤ sizeLine) (hr : Room k callerA)
    (F : ∀ base : Heap, K.In base → base.Ns mainGlobals mg → FnG P w K mg base k fa fd [x] sp) (bind : Binds K fd [x] [])
    (hsp : ∀ H : Hp, Only H → SqL K H a (ns.map V.int) → sp [.ref a] H (fun v _ => v = .bl true) fun _ _ _ => False) :
    codeAny (model P w) callerA (.call (.ref fa) ⟨[.ref a], []⟩) (fun r s' => r = .ok (.ret (.bool true)) ∧ OldK s₀.heap s'.heap ∧ s'.os = s₀.os ∧ AllBare s'.gens) s₀ := by
  have ri := vals_ints hi
  have run : ∀ H : Hp, Only H → SqL K H a (ns.map V.int) → HOk P w H s₀.heap → (∀ c, H c ≠ none → c = a) → (H a ≠ none → K.lookup a = none) →
      codeAny (model P w) callerA (.call (.ref fa) ⟨[.ref a], []⟩) (fun r s' => r = .ok (.ret (.bool true)) ∧ OldK s₀.heap s'.heap ∧ s'.os = s₀.os ∧ AllBare s'.gens) s₀ := by
    intro H only sq ok own out
    have free : ∀ {c : Addr} {o : Obj}, s₀.heap.get? c = some o → (c = a → False) → (hidT s₀.heap H).get? c = some o := fun {c o} e z => hidT_get e (Classical.byContradiction fun q => z (own c q))
    have dic : ∀ {c : Addr} {o : Obj} {es : Array DictEntry} {ep : Nat}, s₀.heap.get? c = some o → o.data = .dict es ep → c = a → False := fun e d z => by
      subst z
      cases ha.symm.trans e
      exact Data.noConfusion d
    have nsH : ∀ {c : Addr} {m : Str → Option Value}, s₀.heap.Ns c m → (hidT s₀.heap H).Ns c m := fun {c m} ⟨o, es, ep, e, d, r⟩ => ⟨o, es, ep, free e (dic e d), d, r⟩
    have kinH : K.In (hidT s₀.heap H) := fun c o e => by
      by_cases z : H c = none
      · exact hidT_get (kin c o e) z
      · have z2 := own c z
        subst z2
        cases (out z).symm.trans e
    have md : Mod K mg (hidT s₀.heap H) := ⟨kinH, nsH hm, ⟨mb, nsH hb, boot⟩, by obtain ⟨mc, l1, l2⟩ := lim; exact ⟨mc, nsH l1, l2⟩⟩
    have env : Env0 P w K mg (hidT s₀.heap H) callerA [] s₀ H := ⟨rfl, md, fun c o e => of_hidT e, Nat.le_of_eq (hidT_size _ _), trivial, fun c hc => (by cases (hc : c ∈ ([] : List Addr))), ok, .of_eq gens⟩
    refine codeAny_mono ((F _ kinH (nsH hm)).go callerA [] s₀ H ⟨[.ref a], []⟩ [.ref a] [.ref a] _ _ rfl hr env (bind s₀ [.ref a] kin rfl) (.cons rfl .nil) (hsp H only sq)) fun r s2 z => ?_
    rcases r with e | fl
    · exact (show False from z).elim
    rcases fl with _ | _ | _ | u
    · exact (show False from z).elim
    · exact (show False from z).elim
    · exact (show False from z).elim
    obtain ⟨v, H2, os, bare, un, ok2, r2, q⟩ := z
    obtain rfl : v = V.bl true := q
    cases (r2 : u = Value.bool true)
    refine ⟨rfl, OldK.of_keep fun c o e => ?_, os, bare⟩
    rcases only c with z | ⟨ob, xs, z⟩
    · exact un.keep c o e z (fun y => (by cases (y : c ∈ ([] : List Addr)))) (by simp)
    · have t1 := (ok c _ z).1
      rw [e] at t1
      cases t1
      exact (ok2 c _ (un.frzs c _ _ z)).1
  by_cases hk : ∃ o, K.lookup a = some o
  · obtain ⟨o, hk⟩ := hk
    cases ha.symm.trans (kin a o hk)
    refine run (fun _ => none) (fun _ => Or.inl rfl) (Or.inr ⟨_, vs.toArray, _, hk, rfl, rfl, rfl, by rw [List.size_toArray, hi.length]; exact hl, by simpa using ri⟩) (fun c u z => ?_) (fun c z => absurd rfl z) fun z => absurd rfl z
    cases (z : (none : Option HO) = some u)
  · have hk0 : K.lookup a = none := by
      cases q : K.lookup a with
      | none => rfl
      | some o => exact absurd ⟨o, q⟩ hk
    let H0 : Hp := fun c => if c = a then some (.frz { cls := .type "list", data := .seq vs.toArray } (.lst (ns.map V.int))) else none
    have at_a : H0 a = some (.frz { cls := .type "list", data := .seq vs.toArray } (.lst (ns.map V.int))) := if_pos rfl
    have off_a : ∀ c, c ≠ a → H0 c = none := fun c h => if_neg h
    refine run H0 (fun c => ?_) (Or.inl (Or.inr ⟨_, at_a⟩)) (fun c u z => ?_) (fun c z => Classical.byContradiction fun h => z (off_a c h)) fun _ => hk0
    · by_cases h : c = a
      · exact Or.inr ⟨_, _, by rw [h]; exact at_a⟩
      · exact Or.inl (off_a c h)
    · by_cases h : c = a
      · subst h
        cases at_a.symm.trans z
        exact ⟨ha, by rw [List.length_map]; exact hl, vs, _, ri, ha⟩
      · cases (off_a c h).symm.trans z
theorem walkG {l : PySem.W.OpenLaw} {n k : Nat} {q : Program} {loose : List Str} {XP : (Str → Option Value) → Heap → Prop} {YP : World → Heap → Prop} {d : DefRec} {K : Params → PySem.W.Frag} {sp : World → Sp} {x : Str}
    (hn : l.most = some n) (hn2 : n ≤ sizeLine) (hdf : d.params.defaults = []) (hr : Room k callerA) (hY : ∀ (w : World) (h : Heap), YP w h → (K w.params).In h)
    (F : ∀ (w : World) (mg : Str → Option Value) (fa : Addr) (h : Heap), (K w.params).In h → h.Ns mainGlobals mg → mg d.name = some (.ref fa) →
      ∃ fd : FuncData, Binds (K w.params) fd [x] [] ∧ ∀ base : Heap, (K w.params).In base → base.Ns mainGlobals mg → FnG l.prog w (K w.params) mg base k fa fd [x] (sp w))
    (hsp : ∀ (w : World) (H : Hp) (a : Addr) (ns : List Int), ns.length ≤ n → Only H → SqL (K w.params) H a (ns.map V.int) → sp w [.ref a] H (fun v _ => v = .bl true) fun _ _ _ => False) :
    PySem.W.WalkO q loose XP YP l.row.toRowW d [] (fun f vs => PySem.call f vs) := by
  refine Att.attach_call hn hdf fun w s0 s1 mg mb fa o pm cd doc a vs ns G Y ho hd hcd hmg hobj hints hlen hg => ?_
  have kin := hY w _ Y
  obtain ⟨fd, hb, hF⟩ := F w mg fa _ kin G.T.g hmg
  exact callG kin G.T.g G.T.b G.T.builtins G.T.nolimit hg hobj hints (Nat.le_trans hlen hn2) hr hF hb fun H only sq => hsp w H a ns hlen only sq
/-- what stands at the start of a law -/
theorem spLaw {K : PySem.W.Frag} {H : Hp} {a : Addr} {ns : List Int} {c : Ctr} (hc : ∀ Q : D → Nat → Prop, (∀ n', Q (.bl true) n') → c [.scr ns] 0 Q) (hO : Only H) (hS : SqL K H a (ns.map V.int)) :
    spC K 1 c [.ref a] H (fun v _ => v = .bl true) fun _ _ _ => False := by
  have hp : ScrP K H a ns := by
    rcases hS with (h | h) | h
    · rcases hO a with z | ⟨o, xs, z⟩
      · rw [h] at z; cases z
      · rw [h] at z; cases z
    · exact .inl h
    · exact .inr h
  refine ⟨fun _ => .free, [.scr ns], 0, fun d _ => d = .bl true, ⟨fun _ _ z => (by cases z), fun _ _ z => (by cases z), fun _ _ z => (by cases z), fun _ _ => rfl⟩, rfl, .cons (.scr hp) .nil, hc _ fun _ => rfl, ?_⟩
  rintro d n' v G' H' rfl _ _ _ r
  cases r
  rfl
/-- a def that the top has bound -/
structure HD (K : PySem.W.Frag) (mg : Str → Option Value) (x : Str) (st : Stmt) (ps : List Str) : Type where
  f : Addr
  fd : FuncData
  F : Fun K x x st f fd
  b : Binds K fd ps []
  g : mg x = some (.ref f)
def headOf {K : PySem.W.Frag} {h : Heap} {mg : Str → Option Value} {x : Str} {st : Stmt} {ps : List Str} {f : Addr} {od an : Option Addr} {osl : Array (Option Value)} {oc kV dc pm cd ct : Value}
    (hb : ∀ (kV dc pm : Value) (an : Option Addr) (cd ct : Value) (us : List Value), us.length = ps.length → bindArgs (PySem.W.fnOf x x (defArgs st) (defBody st) (defScope st) .none kV dc pm an cd ct) ⟨us, []⟩ = pure (ps.zip us))
    (kin : K.In h) (G : h.Ns mainGlobals mg) (at_ : PySem.W.nsIn K mainGlobals x = some (some (.ref f)))
    (lk : K.lookup f = some ⟨oc, od, .func (PySem.W.fnOf x x (defArgs st) (defBody st) (defScope st) .none kV dc pm an cd ct), osl⟩) (cod : PySem.W.codeIn K cd x = true) (kp : PySem.W.keepIn K (.ref f) = true) : HD K mg x st ps :=
  ⟨f, _, fun_mk lk cod kp, (fun_mk lk cod kp).binds hb, PySem.W.mg_of kin G at_⟩
end Ly

namespace Ly
open PySem PySem.Spec PyProof.Rows L2
/-! ### own error classes whose __init__ calls their base's, which has none of its own -/
structure BaseC (K : PySem.W.Frag) (C : Addr) : Prop where
  rd : PySem.W.readsIn K C (.type "type") = true
  sp : PySem.W.specialIn K (.ref C) "__getattribute__" = some (some (.builtin "type.__getattribute__"))
  fi : PySem.W.findCls K (.ref C) (.type "type") "__init__" = some (.val (.builtin "ValueError.__init__"))
structure ErrC (K : PySem.W.Frag) (C fI : Addr) : Prop where
  o : OexC K C
  iC : PySem.W.findIn K (.ref C) "__init__" = some (some (.ref fI))
  tI : PySem.W.typeIn K (.ref fI) = some (.type "function")
section
variable {X : Cx} {e : Expr} {es : List Expr} {ta : TA} {nm : Str} {CK : Addr} {p1 p2 pos p : Pos}
/-- Base.__init__(self, ..) -/
theorem pe_ceinit {pl : Sem Bool} (T : BaseC X.K CK) (hg : Gl X nm) (hm : X.mg nm = some (.ref CK)) (ha : PA X (e :: es) ta) (hdb : (nm == ("__debug__" : Str)) = false := by decide)
    (hc : eval (.Call (.Attribute (.Name nm p1) "__init__" p2) (e :: es) [] pos) X.env = (do
      let ov ← eval (.Name nm p1) X.env
      standAt p2.atName
      let (f, first) ← holding [ov] (getMethod ov "__init__" pl)
      callWith pos f first (backTo pos (starEach (e :: es) X.env)) (backToKw pos (keywordEach [] X.env))) := by rfl)
    (he : starEach (e :: es) X.env = (false, eval e X.env) :: starEach es X.env := by rfl) (hpl : (backTo pos (starEach es X.env)).any (·.1) = false := by rfl) :
    PE X (.Call (.Attribute (.Name nm p1) "__init__" p2) (e :: es) [] pos) (tVeI X.K ta) := by
  refine ⟨fun pins s σ H Q I h => ?_⟩
  refine PySem.W.methodCall_KW (ld_glob I hg hm ?_ hdb) hc
  refine PySem.W.method_cls I.kIn T.sp (PySem.W.cls_value I.kIn T.rd T.fi (by decide +kernel) ?_)
  show wpAny _ _ (callWith pos (Value.builtin "ValueError.__init__") [] (backTo pos (starEach (e :: es) X.env)) []) _ _ _
  refine PyProof.Rows.callWith_method1 (thn (ha.run pos pins _ σ H _ (I.tok _) h) fun us s1 ⟨vs, H1, I1, r1, a, C, ws, ev, hl, T, ea, q⟩ => ?_) he hpl
  subst ev
  cases r1 with
  | @cons _ u0 _ ur ra rw' =>
    obtain rfl : u0 = Value.ref a := ra
    have hlen : ur.length ≤ sizeLine := by
      rw [← Paired.length rw', sizeLine_eq]
      omega
    exact oinit_ok T I1 ea hlen fun s' J => ⟨.non, H1, J, rfl, q⟩
/-- what such an __init__ without fields keeps -/
def spI0 (K : PySem.W.Frag) : Sp := fun vs H Q _ => ∃ a C, vs = [.ref a] ∧ OexC K C ∧ H a = some (exo a C none) ∧ Q .non H
/-- the end of C(): the exception is let go -/
theorem mk_endN {pins : List (Addr × Obj)} {σ : L2.St} {H1 : Hp} {Q : XK} {hp hp2 h2 : Heap} {g1 g2 : Array GenState} {d1 d2 : Drawn} {t1 t2 : Nat} {os1 os2 : OsState} {a C : Addr} (T : Raises X (.ref C)) (I1 : Inv X pins σ H1 ⟨hp, g1, d1, t1, os1⟩)
    (ha : hp.objs.size ≤ a) (k : ∀ b o, hp.get? b = some o → hp2.get? b = some o) (un : Un (frs X.stack) [] (upd H1 a (exo a C none)) (upd H1 a (exo a C none)) hp2 h2) (hok : HOk X.prog X.w (upd H1 a (exo a C none)) h2) (ho : os2 = os1) (hb : AllBare g2)
    (q : Q (.ref C) none H1) : MkP X pins σ Q (.ref a) ⟨h2, g2, d2, t2, os2⟩ := by
  have ea : (upd H1 a (exo a C none)) a = some (exo a C none) := upd_same
  obtain ⟨t0, hoe⟩ := exo_at hok ea
  have hn : H1 a = none := I1.hok.fresh ha
  obtain ⟨G, g1', g2'⟩ := restrict h2 fun b => decide (b ≠ a)
  have gk : ∀ b, b ≠ a → G.get? b = h2.get? b := fun b hb => g1' b (decide_eq_true hb)
  have ge : G.get? a = none := g2' a (by simp)
  have nha : ∀ {b : Addr} {o : Obj}, hp.get? b = some o → b ≠ a := fun {b o} z => Nat.ne_of_lt (Nat.lt_of_lt_of_le (Heap.lt_size z) ha)
  have up : ∀ {b : Addr}, b ≠ a → H1 b = none → upd H1 a (exo a C none) b = none := fun {b} hb n => by rw [upd_ne hb]; exact n
  have U : Un (frs X.stack) [] H1 H1 hp G := {
    keep := fun b o z n hf hx => by
      rw [gk b (nha z)]
      exact un.keep b o (k b o z) (up (nha z) n) hf hx
    slot := fun b o z n hf hx => by
      rw [gk b (nha z)]
      exact un.slot b o (k b o z) (up (nha z) n) hf hx
    free := fun b o z n hx => n
    there := fun b o z hx => by
      rw [gk b (nha z)]
      exact un.there b o (k b o z) hx
    tups := fun b xs z => z
    frzs := fun b o v z => z
    tbls := fun b ps z => ⟨#[], by rw [z]; simp⟩ }
  have hok3 : HOk X.prog X.w H1 G := fun b o z => by
    have hba : b ≠ a := fun e => by
      rw [e, hn] at z
      cases z
    have noa : ∀ {c : Addr}, H1 c = some (.own b) → c ≠ a := fun {c} hc e => by rw [e, hn] at hc; cases hc
    refine (hok b o (by rw [upd_ne hba]; exact z)).stay (fun c v hc y => ?_) (fun c hc => ?_) (fun c xs hc => ?_)
    · have hca : c ≠ a := by
        rcases hc with hc | hc
        · rw [hc]
          exact hba
        · exact at_ne ea hc exo_own
      rw [gk c hca]
      exact y
    · rw [upd_ne (at_ne ea hc exo_own)] at hc; exact hc
    · rw [upd_ne (at_ne ea hc exo_tup)] at hc; exact hc
  have J : Inv X pins σ H1 ⟨G, g2, d2, t2, os2⟩ := I1.call' (ch := []) ho U hok3 hb (fun b z => absurd z (by simp))
  refine ⟨a, _, _, ⟨G, g2, d2, t2, os2⟩, H1, .ref C, none, rfl, J, fun b o z => ?_, ge, hoe, ⟨rfl, rfl⟩, rfl, rfl, hn, rfl, hb, T, q⟩
  by_cases hba : b = a
  · rw [hba, ge] at z
    cases z
  · exact (gk b hba).symm.trans z
/-- C() -/
theorem pmk_oex0 {CX : CXT} {x : Str} {C fI : Addr} {k : Nat} {fd : FuncData} (T : ErrC X.K C fI) (F1 : FnOk X.prog X.w X.K X.mg X.base CX k fI fd ["self"] (spI0 X.K)) (hr : Room (k + 1) X.A) (hb : Binds X.K fd ["self"] []) (hx : Passes CX X (fun _ _ _ => False)) (hg : Gl X x) (hm : X.mg x = some (.ref C))
    (hdb : (x == ("__debug__" : Str)) = false := by decide) :
    PMk X (.Call (.Name x p) [] [] pos) (fun _ H Q => Q (.ref C) none H) := by
  intro pins s σ H1 Q I1 h
  obtain ⟨nm, q, N, bs, bm, sn, sub, ab, col, dd, k0, k1, k2, k3, k5, hC, hbm⟩ := T.o.cls
  refine wpAny_Call_Name_kw (ld_glob I1 hg hm ?_ hdb)
  refine PySem.W.callWith_K0 I1.kIn T.o.kC ?_
  show wpAny _ _ (call (.ref C) []) _ _ _
  obtain ⟨hp, g, dr, tk, os⟩ := s
  have hsz : hp.objs.size ≤ hp.objs.size + 1 := Nat.le_succ _
  have hn : H1 (hp.objs.size + 1) = none := I1.hok.fresh hsz
  have kk : ∀ b o, hp.get? b = some o → ((hp.push (PySem.W.kdv_tup [])).push (PySem.HandSPX.excO C hp.objs.size)).get? b = some o := fun b o e => Heap.get?_push_of_some _ (Heap.get?_push_of_some _ e)
  have hget : ((hp.push (PySem.W.kdv_tup [])).push (PySem.HandSPX.excO C hp.objs.size)).get? (hp.objs.size + 1) = some (PySem.HandSPX.excO C hp.objs.size) := by heap_get
  have I2 : Inv X pins σ (upd H1 (hp.objs.size + 1) (exo (hp.objs.size + 1) C none)) ⟨(hp.push (PySem.W.kdv_tup [])).push (PySem.HandSPX.excO C hp.objs.size), g, dr, tk, os⟩ :=
    I1.laid (t' := tk) (a := hp.objs.size + 1) (o := exo (hp.objs.size + 1) C none) (h' := (hp.push (PySem.W.kdv_tup [])).push (PySem.HandSPX.excO C hp.objs.size)) kk hsz (exo_ok hget)
  have r2 : Vals [V.ref (hp.objs.size + 1)] [Value.ref (hp.objs.size + 1)] := .cons rfl .nil
  have hq : spI0 X.K [.ref (hp.objs.size + 1)] (upd H1 (hp.objs.size + 1) (exo (hp.objs.size + 1) C none)) (fun v H2 => v = .non ∧ H2 = upd H1 (hp.objs.size + 1) (exo (hp.objs.size + 1) C none)) (fun _ _ _ => False) := ⟨_, C, rfl, T.o, upd_same, rfl, rfl⟩
  refine wpAny_call (PySem.HandSPX.call_own F.excBase_ValueError (fun Y => PySem.HandSPX.refsVE_contains Y bm hbm) (I1.kIn _ _ hC) (PySem.W.looks_findIn I1.kIn T.iC) (fun self => PySem.W.bind_fn I1.kIn self T.tI) (by simp)
    (codeAny_mono (F1.run _ X.stack _ _ ⟨[Value.ref (hp.objs.size + 1)], []⟩ [Value.ref (hp.objs.size + 1)] _ _ (fun _ _ _ => False) (hr.make C [] []) (I2.env0.make C [] []) (hb _ [Value.ref (hp.objs.size + 1)] I2.kIn rfl) r2 hq) fun r s' hq' => ?_))
  cases r with
  | error er => exact hx pins σ _ _ er s' I2 hq'
  | ok fl =>
    cases fl with
    | ret u =>
      obtain ⟨v, H2, os2, bare2, un2, hok2, rv, ev, eH⟩ := hq'
      subst ev
      subst eH
      obtain ⟨h2, g2, d2, t2, os'⟩ := s'
      exact ⟨rv, mk_endN (raises_own T.o.exC T.o.tyC) I1 hsz kk un2 hok2 os2 bare2 h⟩
    | next => exact False.elim hq'
    | brk => exact False.elim hq'
    | cont => exact False.elim hq'
end

/-! ### errors over data: a class by its name, its fields -/
abbrev XD := Str × List (Str × D)
def XdOk (K : PySem.W.Frag) (mg : Str → Option Value) (G : Gh) (H : Hp) (xd : XD) (cls : Value) (dd : Option Addr) : Prop := mg xd.1 = some cls ∧ (xd.2 = [] → dd = none) ∧
  (xd.2 ≠ [] → ∃ d vs, dd = some d ∧ G d = .fro ∧ H d = some (.xd vs) ∧ vs.map (·.1) = xd.2.map (·.1) ∧ RepL K G H (vs.map (·.2)) (xd.2.map (·.2)))
abbrev WDt := XD → List SV → Nat → Prop
def tWX (K : PySem.W.Frag) (mg : Str → Option Value) (B : Bs) (W : WDt) : WX := fun cls dd σ H => ∃ xd ρ n G τ, W xd ρ n ∧ EnvOk K B.1 B.2 G H σ ρ n τ ∧ XdOk K mg G H xd cls dd
abbrev CtrX := List D → Nat → (D → Nat → Prop) → (XD → Nat → Prop) → Prop
def spX (K : PySem.W.Frag) (mg : Str → Option Value) (m : Nat) (c : CtrX) : Sp := fun vs H Q E => ∃ G ds n Q' E', G0Ok G H n ∧ ds.length = m ∧ RepL K G H vs ds ∧ c ds n Q' E' ∧
  (∀ d n' v G' H', Q' d n' → Gr G H G' H' → (∀ a b, G' a = .bagd b → BagOk G' H' n' a b) → (∀ a, H' a = none → G' a = .free) → Rep K G' H' v d → Q v H') ∧
  (∀ xd n' cls dd G' H', E' xd n' → Gr G H G' H' → (∀ a b, G' a = .bagd b → BagOk G' H' n' a b) → (∀ a, H' a = none → G' a = .free) → XdOk K mg G' H' xd cls dd → E cls dd H')
/-- THE RULE for a def that may raise -/
theorem def_okX {P : Program} {w : World} {K : PySem.W.Frag} {mg : Str → Option Value} {base : Heap} {x qual : Str} {st : Stmt} {f : Addr} {fd : FuncData} {N ps : List Str} {k m : Nat} {c : CtrX} {wb : WDt → TDS} (F : Fun K x qual st f fd) (S : FnScope N ps (defScope st)) (hm : ps.length = m)
    (hbody : ∀ (cdv : Value) (A : Around) (outer : List Env) (s : Shared) (H : Hp) (E : XK) (B : Bs) (W : WDt), Room k (A.deeper (envOfC qual (defScope st) s.heap.objs.size f cdv)) → Takes (cxOf (L2.CX P w) P w K mg base N qual (defScope st) f cdv A outer s H E) (tWX K mg B W) →
      DSs (cxOf (L2.CX P w) P w K mg base N qual (defScope st) f cdv A outer s H E) B (defBody st) (wb W))
    (hc : ∀ ds n Q E, ds.length = m → c ds n Q E → wb (fun xd _ n' => E xd n') { nx := fun _ n' => Q .non n', rt := Q } (startD N ds) n) : FnOk P w K mg base (L2.CX P w) (k + 1) f fd ps (spX K mg m c) := by
  refine F.okX S (fun vs H Q E ⟨G, ds, n, Q', E', g, hl, rl, hc, hq, _⟩ => by rw [rl.length, hl, hm]) (fun cdv A outer s H vs Q E hr ⟨G, ds, n, Q', E', g, hl, rl, h1, hq, hx⟩ => ?_)
  have tk : Takes (cxOf (L2.CX P w) P w K mg base N qual (defScope st) f cdv A outer s H E) (fun cls d _ H' => E cls d H') := takes_of rfl rfl rfl rfl
  have tk2 : Takes (cxOf (L2.CX P w) P w K mg base N qual (defScope st) f cdv A outer s H E) (tWX K mg (G, H) (fun xd _ n' => E' xd n')) := tk.imp fun cls dd σ H' ⟨xd, ρ, n, G', τ, hw, e, hd⟩ => hx xd n cls dd G' H' hw e.gr e.bg e.fh hd
  exact ⟨_, hbody cdv A outer s H E (G, H) _ hr tk2, G, startD N ds, n, [], _, envOk_start g rl, hc ds n Q' E' hl h1, fun σ' ρ' n' G' H' h2 e2 => hq .non n' .non G' H' h2 e2.gr e2.bg e2.fh .non,
    fun d n' v G' H' σ' ρ' h2 r2 e2 => hq d n' v G' H' h2 e2.gr e2.bg e2.fh r2, fun _ _ _ _ _ z => z.elim, fun _ _ _ _ _ z => z.elim⟩
section
variable {X : Cx} {B : Bs} {e c : Expr} {es : List Expr} {ws : TDA} {pos p np pos' : Pos} {W : WDt} {nm x : Str} {C : Addr} {st : Stmt} {sts body suite : List Stmt} {b₀ : Stmt}
/-- a call that may raise -/
def wCallX (W : WDt) (m : Nat) (c : CtrX) (ws : TDA) : TD := fun ρ n Q => ws ρ n fun rs ρ1 n1 => rs.length = m ∧ c (rs.map dOf) n1 (fun d n2 => Q (.val d) ρ1 n2) fun xd n2 => W xd ρ1 n2
theorem de_callX {m : Nat} {c : CtrX} (h : PE X e (tCallS (spX X.K X.mg m c) (WE (tWX X.K X.mg B W)) (tDA X.K B ws))) : DE X B e (wCallX W m c ws) :=
  PE.imp h fun σ H Q ⟨G, ρ, n, τ, Q', e, hw, k⟩ => ⟨G, ρ, n, τ, _, e, hw, fun rs ρ1 n1 vs G1 H1 ⟨hm, h1⟩ hl e1 => by
    obtain ⟨G2, x2, e2, rl⟩ := EnvOk.freezeAll rs vs τ G1 hl e1
    obtain ⟨g0, x3⟩ := e2.out
    refine ⟨outG G2, rs.map dOf, n1, _, _, g0, by rw [List.length_map]; exact hm, rl.mono x3, h1, fun d n2 v G' H' h2 gr bg fh rv => ?_, fun xd n2 cls dd G' H' h2 gr bg fh hd => ?_⟩
    · obtain ⟨e3, x4⟩ := e2.back gr bg fh
      exact k _ _ _ _ _ _ h2 (e3.pushV (rv.mono x4))
    · obtain ⟨e3, x4⟩ := e2.back gr bg fh
      obtain ⟨h3, h4, h5⟩ := hd
      refine ⟨xd, ρ1, n2, _, _, h2, e3, h3, h4, fun hne => ?_⟩
      obtain ⟨d, vs', e1, g1, e2, e3, e4⟩ := h5 hne
      exact ⟨d, vs', e1, (x4.fro _ g1).1, (x4.fro _ g1).2 _ e2, e3, e4.mono x4⟩⟩
/-- raise C() -/
def wRaise (W : WDt) (xd : XD) : TDS := fun _ ρ n => W xd ρ n
theorem ds_raise0 (hc : X.calm = true) (tk : Takes X (tWX X.K X.mg B W)) (he : PMk X e (fun _ H Q => Q (.ref C) none H)) (hm : X.mg nm = some (.ref C)) : DS X B (.Raise (some e) none pos) (wRaise W (nm, [])) :=
  PS.imp (ps_raise hc tk he) fun D σ H ⟨G, ρ, n, τ, D', e, hw, _⟩ => ⟨(nm, []), ρ, n, G, τ, hw, e, hm, fun _ => rfl, fun h => absurd rfl h⟩

/-! ### statements where nothing else is held -/
def tDS0 (K : PySem.W.Frag) (B : Bs) (w : TDS) : TS := fun D σ H => ∃ G ρ n D', EnvOk K B.1 B.2 G H σ ρ n [] ∧ w D' ρ n ∧
  (∀ σ' ρ' n' G' H', D'.nx ρ' n' → EnvOk K B.1 B.2 G' H' σ' ρ' n' [] → D.nx σ' H') ∧
  (∀ d n' v G' H' σ' ρ', D'.rt d n' → Rep K G' H' v d → EnvOk K B.1 B.2 G' H' σ' ρ' n' [] → D.rt v H') ∧
  (∀ σ' ρ' n' G' H', D'.bk ρ' n' → EnvOk K B.1 B.2 G' H' σ' ρ' n' [] → D.bk σ' H') ∧
  (∀ σ' ρ' n' G' H', D'.ct ρ' n' → EnvOk K B.1 B.2 G' H' σ' ρ' n' [] → D.ct σ' H')
abbrev DS0 (X : Cx) (B : Bs) (st : Stmt) (w : TDS) : Prop := PS X st (tDS0 X.K B w)
abbrev DSs0 (X : Cx) (B : Bs) (st : List Stmt) (w : TDS) : Prop := PSs X st (tDS0 X.K B w)
theorem ds0 {w : TDS} (h : DS X B st w) : DS0 X B st w := PS.imp h fun D σ H ⟨G, ρ, n, D', e, hw, k⟩ => ⟨G, ρ, n, [], D', e, hw, k⟩
theorem dss0 {w : TDS} (h : DSs X B sts w) : DSs0 X B sts w := PSs.imp h fun D σ H ⟨G, ρ, n, D', e, hw, k⟩ => ⟨G, ρ, n, [], D', e, hw, k⟩
theorem dss0_cons {w1 w2 : TDS} (h1 : DS0 X B st w1) (h2 : DSs0 X B sts w2) : DSs0 X B (st :: sts) (wSeq w1 w2) :=
  PSs.imp (pss_cons h1 h2) fun D σ H ⟨G, ρ, n, D', e, hw, k1, k2, k3, k4⟩ =>
    ⟨G, ρ, n, { D' with nx := fun ρ1 n1 => w2 D' ρ1 n1 }, e, hw, fun σ' ρ' n' G' H' h e' => ⟨G', ρ', n', D', e', h, k1, k2, k3, k4⟩, k2, k3, k4⟩
/-- try: body except C: suite; hs tells of a class by its name whether the clause takes it -/
def wTry (hs : Str → Option Bool) (Wout : WDt) (wb : WDt → TDS) (ws : TDS) : TDS := fun D ρ n => wb (fun xd ρ' n' => ∃ b, hs xd.1 = some b ∧ (b = true → ws D ρ' n') ∧ (b = false → Wout xd ρ' n')) D ρ n
theorem ds_try {c : Value} {hs : Str → Option Bool} {Wout : WDt} {wb : WDt → TDS} {ws : TDS} (hst : X.stack = X.env :: X.outer) (hf : X.env.frame = some X.env.locals) (hc : Names X x c) (tk : Takes X (tWX X.K X.mg B Wout))
    (hh : ∀ nm b cls, hs nm = some b → X.mg nm = some cls → PySem.W.exmOne X.K cls c = some b)
    (hb : ∀ (W : WDt) (pn : List (Addr × Obj)) (xe : Value → Shared → Prop), Takes (X.tr pn xe) (tWX X.K X.mg B W) → PassesOwn (model X.prog X.w) X.A X.env xe → DSs (X.tr pn xe) B body (wb W))
    (hsu : ∀ (a : Addr) (oe : Obj) (pn : List (Addr × Obj)), DSs (X.suite a ((a, oe) :: pn)) B (b₀ :: suite) ws) :
    DS0 X B (.Try body [.ExceptHandler (some (.Name x np)) none (b₀ :: suite) pos'] [] [] pos) (wTry hs Wout wb ws) := by
  refine PS.imp (ps_try_only (tb := fun W D σ H => ∃ Wd : WDt, (∀ cls dd σ H, tWX X.K X.mg B Wd cls dd σ H → W cls dd σ H) ∧ tDS X.K B (wb Wd) D σ H) (ts := fun _ _ _ => tDS X.K B ws) hst hf hc tk (fun W pn xe tk' po => ?_) (fun a oe cls d pn _ _ => hsu a oe pn)) fun D σ H h => ?_
  · refine ⟨fun pins s σ H D I h => ?_⟩
    obtain ⟨Wd, hi, h⟩ := h
    exact (hb Wd pn xe (tk'.imp hi) po).run pins s σ H D I h
  · obtain ⟨G, ρ, n, D', e, hw, k1, k2, k3, k4⟩ := h
    refine ⟨_, fun cls dd σ1 H1 h1 => ?_, G, ρ, n, [], D', e, hw, k1, k2, k3, k4⟩
    obtain ⟨xd, ρ1, n1, G1, τ1, ⟨b, hb1, hy, hn⟩, e1, hd⟩ := h1
    refine ⟨b, hh _ _ _ hb1 hd.1, fun hb2 a ha => ?_, fun hb2 => ?_⟩
    · exact ⟨G1, ρ1, n1, [], D', EnvOk.pop (τ := []) e1, hy hb2, k1, k2, k3, k4⟩
    · exact ⟨xd, ρ1, n1, G1, τ1, hn hb2, e1, hd⟩
end
/-- a def whose body holds tries -/
theorem def_ok0 {P : Program} {w : World} {K : PySem.W.Frag} {mg : Str → Option Value} {base : Heap} {x qual : Str} {st : Stmt} {f : Addr} {fd : FuncData} {N ps : List Str} {k m : Nat} {c : Ctr} {wb : TDS} (F : Fun K x qual st f fd) (S : FnScope N ps (defScope st)) (hm : ps.length = m)
    (hbody : ∀ (cdv : Value) (A : Around) (outer : List Env) (s : Shared) (H : Hp) (E : XK) (B : Bs), Room k (A.deeper (envOfC qual (defScope st) s.heap.objs.size f cdv)) → DSs0 (cxOf CX0 P w K mg base N qual (defScope st) f cdv A outer s H E).nox B (defBody st) wb)
    (hc : ∀ ds n Q, ds.length = m → c ds n Q → wb { nx := fun _ n' => Q .non n', rt := Q } (startD N ds) n) : FnOk P w K mg base CX0 (k + 1) f fd ps (spC K m c) := by
  refine F.ok S (fun vs H Q E ⟨G, ds, n, Q', g, hl, rl, hc, hq⟩ => by rw [rl.length, hl, hm]) (fun cdv A outer s H vs Q E hr ⟨G, ds, n, Q', g, hl, rl, h1, hq⟩ => ?_)
  exact ⟨_, hbody cdv A outer s H E (G, H) hr, G, startD N ds, n, _, envOk_start g rl, hc ds n Q' hl h1, fun σ' ρ' n' G' H' h2 e2 => hq .non n' .non G' H' h2 e2.gr e2.bg e2.fh .non,
    fun d n' v G' H' σ' ρ' h2 r2 e2 => hq d n' v G' H' h2 e2.gr e2.bg e2.fh r2, fun _ _ _ _ _ z => z.elim, fun _ _ _ _ _ z => z.elim⟩
section
variable {X : Cx} {B : Bs} {st : Stmt} {sts : List Stmt} {K : PySem.W.Frag} {mg : Str → Option Value}
theorem dss0_one {w : TDS} (h : DS0 X B st w) : DSs0 X B [st] w := pss_one h
theorem takesF : Takes X (tWX K mg B (fun _ _ _ => False)) := takes0.imp fun _ _ _ _ ⟨_, _, _, _, _, h, _⟩ => h
theorem passX0 {P : Program} {w : World} : Passes (L2.CX P w) X (fun _ _ _ => False) := fun _ _ _ _ _ _ _ h => by
  obtain ⟨_, _, _, _, _, _, _, _, _, _, _, _, z⟩ := h
  exact z.elim
/-- where nothing is raised -/
def noX (c : CtrX) : Ctr := fun ds n Q => c ds n Q fun _ _ => False
theorem fn_noX {P : Program} {w : World} {base : Heap} {CX : CXT} {k m : Nat} {f : Addr} {fd : FuncData} {ps : List Str} {c : CtrX} (F : FnOk P w K mg base CX k f fd ps (spX K mg m c)) : FnOk P w K mg base CX k f fd ps (spC K m (noX c)) :=
  F.imp fun vs H Q E ⟨G, ds, n, Q', g, hl, rl, hc, hq⟩ => ⟨G, ds, n, Q', _, g, hl, rl, hc, hq, fun _ _ _ _ _ _ z => z.elim⟩
theorem hs_nil {c : Value} : ∀ (nm : Str) (b : Bool) (cls : Value), (none : Option Bool) = some b → mg nm = some cls → PySem.W.exmOne K cls c = some b := fun _ _ _ h => by cases h
theorem hs_cons {c : Value} {nm0 : Str} {cls0 : Value} {b0 : Bool} {r : Str → Option Bool} (g : mg nm0 = some cls0) (x : PySem.W.exmOne K cls0 c = some b0) (h : ∀ (nm : Str) (b : Bool) (cls : Value), r nm = some b → mg nm = some cls → PySem.W.exmOne K cls c = some b) :
    ∀ (nm : Str) (b : Bool) (cls : Value), (if nm = nm0 then some b0 else r nm) = some b → mg nm = some cls → PySem.W.exmOne K cls c = some b := fun nm b cls h1 h2 => by
  by_cases e : nm = nm0
  · subst e
    rw [if_pos rfl] at h1
    cases h1
    rw [g] at h2
    cases h2
    exact x
  · rw [if_neg e] at h1
    exact h nm b cls h1 h2
end
/-! ### classes that the top has bound -/
def clsBody : Stmt → List Stmt
  | .ClassDef (body := b) .. => b
  | _ => []
structure HErr (K : PySem.W.Frag) (mg : Str → Option Value) (x qual : Str) (st : Stmt) (ps : List Str) : Type where
  C : Addr
  f : Addr
  fd : FuncData
  E : ErrC K C f
  F : Fun K "__init__" qual st f fd
  b : Binds K fd ps []
  g : mg x = some (.ref C)
  h : PySem.W.hasDictIn K C = true
def errOf {K : PySem.W.Frag} {h : Heap} {mg : Str → Option Value} {x qual : Str} {st : Stmt} {ps : List Str} {C f : Addr} {od an : Option Addr} {osl : Array (Option Value)} {oc kV dc pm cd ct : Value}
    {nm q : Str} {N : Addr} {bs bm : List Value} {sn : List Str} {sub : List Value} {ab : Bool} {col : Option Bool} {dd : Option Addr} {m0 m1 m2 m3 m5 : Option Value}
    (hb : ∀ (kV dc pm : Value) (an : Option Addr) (cd ct : Value) (us : List Value), us.length = ps.length → bindArgs (PySem.W.fnOf "__init__" qual (defArgs st) (defBody st) (defScope st) .none kV dc pm an cd ct) ⟨us, []⟩ = pure (ps.zip us))
    (kin : K.In h) (G : h.Ns mainGlobals mg) (at_ : PySem.W.nsIn K mainGlobals x = some (some (.ref C)))
    (xL : K.lookup C = some (excClassObj nm q C N bs bm true sn sub ab col dd m0 m1 m2 m3 m5 "ValueError.__new__")) (rv : PySem.HandSPX.refsVE bm = true)
    (sa : PySem.W.findIn K (.ref C) "__setattr__" = some (some (.builtin "object.__setattr__"))) (eC : PySem.W.subIn K (.ref C) (.type "BaseException") = some true) (tC : PySem.W.typeIn K (.ref C) = some (.type "type")) (kC : PySem.W.keepIn K (.ref C) = true)
    (a1 : PySem.W.findIn K (.ref C) "__init__" = some (some (.ref f))) (t1 : PySem.W.typeIn K (.ref f) = some (.type "function"))
    (lk : K.lookup f = some ⟨oc, od, .func (PySem.W.fnOf "__init__" qual (defArgs st) (defBody st) (defScope st) .none kV dc pm an cd ct), osl⟩) (cod : PySem.W.codeIn K cd qual = true) (kp : PySem.W.keepIn K (.ref f) = true) (hd : PySem.W.hasDictIn K C = true) : HErr K mg x qual st ps :=
  ⟨C, f, _, ⟨⟨⟨_, _, _, _, _, _, _, _, _, _, _, _, _, _, _, xL, rv⟩, sa, eC, tC, kC⟩, a1, t1⟩, fun_mk lk cod kp, (fun_mk lk cod kp).binds hb, PySem.W.mg_of kin G at_, hd⟩
structure HBase (K : PySem.W.Frag) (mg : Str → Option Value) (x : Str) : Type where
  C : Addr
  N : BaseC K C
  g : mg x = some (.ref C)
  e : PySem.W.subIn K (.ref C) (.type "BaseException") = some true
  t : PySem.W.typeIn K (.ref C) = some (.type "type")
  h : PySem.W.hasDictIn K C = true
def baseOf {K : PySem.W.Frag} {h : Heap} {mg : Str → Option Value} {x : Str} {C : Addr} (kin : K.In h) (G : h.Ns mainGlobals mg) (at_ : PySem.W.nsIn K mainGlobals x = some (some (.ref C)))
    (rd : PySem.W.readsIn K C (.type "type") = true) (sp : PySem.W.specialIn K (.ref C) "__getattribute__" = some (some (.builtin "type.__getattribute__"))) (fi : PySem.W.findCls K (.ref C) (.type "type") "__init__" = some (.val (.builtin "ValueError.__init__")))
    (e : PySem.W.subIn K (.ref C) (.type "BaseException") = some true) (t : PySem.W.typeIn K (.ref C) = some (.type "type")) (hd : PySem.W.hasDictIn K C = true) : HBase K mg x := ⟨C, ⟨rd, sp, fi⟩, PySem.W.mg_of kin G at_, e, t, hd⟩
/-- an __init__ without fields -/
theorem ok_init0 {m : V} {P : Program} {w : World} {K : PySem.W.Frag} {mg : Str → Option Value} {base : Heap} {qual : Str} {st : Stmt} {f : Addr} {fd : FuncData} (F : Fun K "__init__" qual st f fd) (S : FnScope ["self"] ["self"] (defScope st))
    (hbody : ∀ (cdv : Value) (A : Around) (outer : List Env) (s : Shared) (H : Hp) (E : XK), Room 0 (A.deeper (envOfC qual (defScope st) s.heap.objs.size f cdv)) →
      PSs (cxOf CX0 P w K mg base ["self"] qual (defScope st) f cdv A outer s H E).nox (defBody st) (tDrop (tVeI K (tCons (tVar 0) (tCons (tC m) tNil))))) : FnOk P w K mg base CX0 1 f fd ["self"] (spI0 K) := by
  refine F.ok S (fun vs H Q E ⟨a, C, e, _⟩ => by rw [e]; rfl) (fun cdv A outer s H vs Q E hr ⟨a, C, e, T, ha, q⟩ => ?_)
  subst e
  exact ⟨_, hbody cdv A outer s H E hr, .ref a, rfl, a, C, [m], rfl, by simp, T, ha, q⟩
end Ly

namespace PySem.W
open PySem PySem.Calls PyProof.Rows
section
variable {prog : Program} {w : World} {M : Model} {A : Around} {E : Value → Shared → Prop} {s : Shared}
/-! ### tuples of which some are empty -/
def TupsO (h : Heap) : List Value → List (Option Value) → Prop
  | [], [] => True
  | v :: vs, f :: fs => (∃ a o xs n, v = .ref a ∧ h.get? a = some o ∧ o.cls = .type "tuple" ∧ o.data = .seq xs n ∧ xs[0]? = f) ∧ TupsO h vs fs
  | _, _ => False
theorem firstsO : ∀ (vs : List Value) (fs : List (Option Value)) {Q : List (Option Value) → Shared → Prop}, TupsO s.heap vs fs → Q fs s → wpAny M A (vs.mapM firstOfTuple') Q E s
  | [], [], _, _, h => by rw [List.mapM_nil]; exact wpAny_pure h
  | [], _ :: _, _, t, _ => t.elim
  | _ :: _, [], _, t, _ => t.elim
  | v :: vs, f :: fs, Q, t, h => by
    obtain ⟨⟨a, o, xs, n, rfl, ho, hc, hd, hf⟩, t⟩ := t
    rw [List.mapM_cons]
    refine wpAny_bind ?_
    rw [kas_first_eq]
    refine wpAny_bind (Looks.here (show Looks M s.heap (typeOf (.ref a)) o.cls from (Looks.ld ho).andThen .now) ?_)
    rw [hc, if_neg (by first | decide | simp)]
    refine wpAny_bind (listItems_at ho hd (wpAny_pure ?_))
    rw [hf]
    exact wpAny_bind (firstsO vs fs (Q := fun bs s' => wpAny M A (pure (f :: bs)) Q E s') t (wpAny_pure h))
theorem kind_mixed {vs : List Value} {fs : List (Option Value)} {Q : SortKind → Shared → Prop} (t : TupsO s.heap vs fs) (h1 : ∃ f r, fs = some f :: r) (h2 : none ∈ fs) (h : Q general' s) : wpAny M A (keyKind' vs.toArray) Q E s := by
  obtain ⟨f, r, rfl⟩ := h1
  rw [kat_kind_eq, List.mapM_toArray, map_eq_pure_bind]
  refine wpAny_bind (wpAny_bind (firstsO vs _ t (wpAny_pure ?_)))
  have hall : ¬ (((some f :: r).toArray.all fun x => x.isSome) = true) := by
    simp only [List.all_toArray]
    intro z
    have := List.all_eq_true.mp z none h2
    simp at this
  rw [if_neg hall]
  have h0 : ((some f :: r).toArray[0]?.bind id).isSome = true := by simp
  rw [if_pos h0]
  exact wpAny_pure h
theorem each_tupsO {h : Heap} : ∀ {vs : List Value} {ds : List PyData}, PySem.W.EachIs (fun v d => ∃ as, Reads h v d as) vs ds → (∀ d, d ∈ ds → ∃ xs, d = .tuple xs) →
    ∃ fs, TupsO h vs fs ∧ (.tuple [] ∈ ds → none ∈ fs) ∧ (∀ x r ds', ds = .tuple (x :: r) :: ds' → ∃ f fr, fs = some f :: fr)
  | _, _, .nil, _ => ⟨[], trivial, fun z => by simp at z, fun _ _ _ z => by cases z⟩
  | _, _, .cons (b := d) ⟨as, r⟩ t, ht => by
    obtain ⟨fs, h1, h2, h3⟩ := each_tupsO t fun d hd => ht d (List.mem_cons_of_mem _ hd)
    obtain ⟨ys, rfl⟩ := ht d (List.mem_cons_self ..)
    cases r with
    | @tuple a o xs n _ _ ho hc hd hr =>
      refine ⟨xs[0]? :: fs, ⟨⟨a, o, xs, n, rfl, ho, hc, hd, rfl⟩, h1⟩, fun z => ?_, fun x r ds' z => ?_⟩
      · rcases List.mem_cons.mp z with z | z
        · injection z with z
          subst z
          have e : xs.toList = [] := by cases q : xs.toList with
            | nil => rfl
            | cons _ _ => rw [q] at hr; cases hr
          have e2 : xs[0]? = none := by rw [← Array.getElem?_toList, e]; rfl
          rw [e2]; exact List.mem_cons_self ..
        · exact List.mem_cons_of_mem _ (h2 z)
      · injection z with z1 z2
        injection z1 with z1
        subst z1
        cases q : xs.toList with
        | nil => rw [q] at hr; cases hr
        | cons f fr => exact ⟨f, fs, by rw [← Array.getElem?_toList, q]; rfl⟩
/-- tuples, the first one not empty, some other empty -/
def SortableM (ds : List PyData) : Prop := (∀ d, d ∈ ds → ∃ xs, d = .tuple xs) ∧ .tuple [] ∈ ds ∧ ∃ x r ds', ds = .tuple (x :: r) :: ds'
theorem SortsAt.mixed {vs : List Value} {ds : List PyData} (e : PySem.W.EachIs (fun v d => ∃ as, Reads s.heap v d as) vs ds) (hal : AllAlike ds) (hk : SortableM ds) (hu : ∀ d, d ∈ ds → A.units + d.depth < cLine) : SortsAt prog w A s (dataKind s.heap ds) vs := by
  have room : ∀ {d d' : PyData}, d ∈ ds → A.units + min d.depth d'.depth < cLine := fun {d d'} hd => Nat.lt_of_le_of_lt (Nat.add_le_add_left (Nat.min_le_left _ _) _) (hu d hd)
  refine ⟨fun v hv => ?_, general', ?_, fun h2 E Q hq => ?_⟩
  · obtain ⟨d, hd, as, r⟩ := e.left v hv
    exact ⟨_, dataKind_some hal hd r⟩
  · intro E x y a b Q ha hb hq
    obtain ⟨d, as, hd, ra, rfl⟩ := dataKind_inv ha
    obtain ⟨d', as', hd', rb, rfl⟩ := dataKind_inv hb
    have eg : keyLt' general' x y = oneLt' false x y := rfl
    rw [eg]
    refine oneLt_alike (fun h => by cases h) ra rb (hal d hd d' hd') ?_ (room hd) hq
    obtain ⟨xs, rfl⟩ := hk.1 d hd
    simp
  · obtain ⟨fs, t1, t2, t3⟩ := each_tupsO e hk.1
    obtain ⟨x, r, ds', e'⟩ := hk.2.2
    exact kind_mixed t1 (t3 x r ds' e') (t2 hk.2.1) hq
end
end PySem.W
namespace Ly
open PySem PySem.Spec PyProof.Rows L2
/-! ### sorted -/
def keyLeP (x y : V × PyData) : Bool := PySem.W.sortLe (listOrd itemOrd) false (fun q : V × PyData => PySem.W.keyToks q.2) x y
def rSortD (K : PySem.W.Frag) : List V → Hp → VK → Prop := fun vs H Q => ∃ a xs ps, vs = [V.ref a] ∧ SqL K H a xs ∧ DpAll K H xs ps ∧ PySem.W.AllAlike ps ∧ (PySem.W.Sortable ps ∨ PySem.W.SortableM ps) ∧ (∀ p ∈ ps, p.depth ≤ 60) ∧
  ∀ p', H p' = none → Q (.ref p') (upd H p' (.lst (((xs.zip ps).mergeSort keyLeP).map Prod.fst)))
section
variable {X : Cx}
theorem dp_each {pins : List (Addr × Obj)} {σ : L2.St} {H : Hp} {s : Shared} (I : Inv X pins σ H s) : ∀ {xs : List V} {ps : List PyData} {us : List Value}, DpAll X.K H xs ps → Vals xs us → PySem.W.EachIs (fun u p => ∃ as, Reads s.heap u p as) us ps
  | _, _, _, .nil, .nil => .nil
  | _, _, _, .cons h t, .cons r rs => .cons (Dp.reads I _ _ _ h r) (dp_each I t rs)
theorem vals_each : ∀ {xs : List V} {ps : List PyData} {us : List Value}, Vals xs us → xs.length = ps.length → PySem.W.EachIs (fun u (q : V × PyData) => RelV q.1 u) us (xs.zip ps)
  | _, _, _, .nil, _ => .nil
  | _, p :: ps, _, .cons r rs, h => .cons r (vals_each rs (by simpa using h))
theorem each_vals : ∀ {us : List Value} {qs : List (V × PyData)}, PySem.W.EachIs (fun u (q : V × PyData) => RelV q.1 u) us qs → Vals (qs.map Prod.fst) us
  | _, _, .nil => .nil
  | _, _, .cons r rs => .cons r (each_vals rs)
theorem each_key {h : Heap} {qs : List PyData} (hal : PySem.W.AllAlike qs) : ∀ {us : List Value} {xs : List V} {ps : List PyData}, (∀ p ∈ ps, p ∈ qs) → xs.length = ps.length → PySem.W.EachIs (fun u p => ∃ as, Reads h u p as) us ps →
    PySem.W.EachIs (fun v (b : V × PyData) => (PySem.W.dataKind h qs).keyOf v = some (PySem.W.keyToks b.2)) us (xs.zip ps)
  | _, [], _, _, hl, .nil => .nil
  | _, x :: xs, p :: ps, hm, hl, .cons ⟨as, r⟩ t => .cons (PySem.W.dataKind_some hal (hm p List.mem_cons_self) r) (each_key hal (fun q hq => hm q (List.mem_cons_of_mem _ hq)) (by simpa using hl) t)
theorem call_sortD (hu : X.A.units + 64 < cLine) : CallR X (.builtin "sorted") (rSortD X.K) := by
  intro pins s σ H vs us Q I r h
  obtain ⟨a, xs, ps, rfl, hs, hd, hal, hsr, hdep, q⟩ := h
  obtain ⟨its, rv, hl, hz⟩ := I.list hs
  obtain ⟨u, rfl, ru⟩ := vals1 r
  obtain rfl : u = Value.ref a := ru
  have ee := dp_each I hd rv
  have le : its.length = ps.length := ee.length
  have lx : xs.length = ps.length := rv.length.trans le
  have ee' : PySem.W.EachIs (fun u p => ∃ as, Reads (PySem.W.sortingHeap (PySem.W.copyHeap s.heap its) (s.heap.objs.size + 1) its) u p as) its ps := ee.mono fun u p => fun ⟨as, z⟩ => ⟨as, Reads.keeps (fun b o e => PySem.W.sorting_copy_old e) z⟩
  have hu2 : ∀ p ∈ ps, X.A.in1.in1.units + p.depth < cLine := fun p hp => by
    have := hdep p hp
    have e1 : X.A.in1.in1.units ≤ X.A.units + 2 := by simp only [Around.in1_units]; omega
    omega
  have S : PySem.W.SortsAt X.prog X.w X.A.in1.in1 { s with heap := PySem.W.sortingHeap (PySem.W.copyHeap s.heap its) (s.heap.objs.size + 1) its } (PySem.W.dataKind (PySem.W.sortingHeap (PySem.W.copyHeap s.heap its) (s.heap.objs.size + 1) its) ps) its := by
    rcases hsr with hsr | hsr
    · exact PySem.W.SortsAt.data ee' hal hsr hu2
    · exact PySem.W.SortsAt.mixed ee' hal hsr hu2
  have hout := PySem.W.sortVals_each (R := fun u (q : V × PyData) => RelV q.1 u) (rev := false) (κ := PySem.W.dataKind (PySem.W.sortingHeap (PySem.W.copyHeap s.heap its) (s.heap.objs.size + 1) its) ps) (fun q : V × PyData => PySem.W.keyToks q.2) (vals_each rv lx) (each_key hal (fun p hp => hp) lx ee')
  have hv := each_vals hout
  refine PySem.W.sorted_vals hl.isList S (by rw [← rv.length]; exact hz) ?_
  obtain ⟨e, he⟩ := sortedAll_at s.heap its (PySem.W.sortVals (PySem.W.dataKind (PySem.W.sortingHeap (PySem.W.copyHeap s.heap its) (s.heap.objs.size + 1) its) ps) false its its).toArray
  have hsz : s.heap.objs.size ≤ s.heap.objs.size + 1 := Nat.le_succ _
  refine ⟨.ref (s.heap.objs.size + 1), _, I.laid (t' := s.toks) (a := s.heap.objs.size + 1) (o := .lst (((xs.zip ps).mergeSort keyLeP).map Prod.fst)) (fun b o => sortedAll_old) hsz ⟨?_, _, e, hv, he⟩, rfl, q _ (I.hok.fresh hsz)⟩
  rw [List.length_map, (List.mergeSort_perm _ _).length_eq, List.length_zip, lx, Nat.min_self, ← lx]
  exact hz
end
end Ly

namespace Ly
open PySem PySem.Spec PyProof.Rows L2
/-! ### repr of data among which empty dicts stand -/
mutual
def emB : PyData → Bool
  | .list xs => emBs xs
  | .tuple xs => emBs xs
  | .dict kvs => kvs.isEmpty
  | _ => true
def emBs : List PyData → Bool
  | [] => true
  | x :: xs => emB x && emBs xs
end
/-- no dict among them is that of the modules -/
def Away (h : Heap) (as : List Addr) : Prop := ∀ b, b ∈ as → ∀ o es n, h.get? b = some o → o.data = .dict es n → b ≠ sysModules
theorem Away.left {h : Heap} {as bs : List Addr} (x : Away h (as ++ bs)) : Away h as := fun b hb => x b (List.mem_append_left _ hb)
theorem Away.right {h : Heap} {as bs : List Addr} (x : Away h (as ++ bs)) : Away h bs := fun b hb => x b (List.mem_append_right _ hb)
theorem Away.tl {h : Heap} {a : Addr} {as : List Addr} (x : Away h (a :: as)) : Away h as := fun b hb => x b (List.mem_cons_of_mem _ hb)
section
variable {prog : Program} {w : World} {h : Heap}
theorem none_read {l : List Value} {as : List Addr} (r : ReadsAll h l [] as) : l = [] := by cases r; rfl
mutual
theorem rk_of : ∀ {v : Value} {d : PyData} {as : List Addr}, Reads h v d as → d.showable = true → Away h as → emB d = true → d.shown.length ≤ sizeLine → ∃ bs, ReadAtMost h d.depth bs ∧ ReprK prog w bs h d.depth v d.shown
  | _, _, _, .none, q1, q2, q3, q4 => ReprK.of_reads .none q1 (fun z => by cases z) q4
  | _, _, _, .bool b, q1, q2, q3, q4 => ReprK.of_reads (.bool b) q1 (fun z => by cases z) q4
  | _, _, _, .int i t, q1, q2, q3, q4 => ReprK.of_reads (.int i t) q1 (fun z => by cases z) q4
  | _, _, _, .str x t, q1, q2, q3, q4 => ReprK.of_reads (.str x t) q1 (fun z => by cases z) q4
  | _, _, _, .list (a := a) (vs := vs) (xs := xs) g1 g2 g3 g4, q1, q2, q3, q4 => by
    rw [PyData.shown] at q4
    obtain ⟨bs, hb, hk⟩ := rks_of g4 (by rw [PyData.showable] at q1; exact q1) q2.tl (by rw [emB] at q3; exact q3) fun t ht => Nat.le_trans (listText_mem_le ht) q4
    have dp : PyData.depthAll xs < (PyData.list xs).depth := by rw [PyData.depth]; exact Nat.lt_succ_self _
    have off : a ∉ bs := not_mem_of_deeper (.list g1 g2 g3 g4) dp hb
    refine ⟨a :: bs, ReadAtMost.cons (.list g1 g2 g3 g4) (Nat.le_refl _) (hb.mono (Nat.le_of_lt dp)), ?_⟩
    rw [PyData.depth, PyData.shown]
    obtain ⟨l⟩ := vs
    cases l with
    | cons y l => exact ReprK.list g1 g2 g3 off (by rw [hk.length_eq]; simp) fun i z e => hk.item i z (by simpa using e)
    | nil =>
      have e : xs = [] := by
        have z : ReadsAll h [] xs _ := g4
        cases z
        rfl
      subst e
      rw [PyData.shownAll, listText_nil]
      exact ReprK.listEmpty g1 g2 g3
  | _, _, _, .tuple (a := a) (xs := xs) g1 g2 g3 g4, q1, q2, q3, q4 => by
    rw [PyData.shown] at q4
    obtain ⟨bs, hb, hk⟩ := rks_of g4 (by rw [PyData.showable] at q1; exact q1) (by first | exact q2.tl | exact q2) (by rw [emB] at q3; exact q3) fun t ht => Nat.le_trans (tupleText_mem_le ht) q4
    have dp : PyData.depthAll xs < (PyData.tuple xs).depth := by rw [PyData.depth]; exact Nat.lt_succ_self _
    have off : a ∉ bs := not_mem_of_deeper (.tuple g1 g2 g3 g4) dp hb
    refine ⟨a :: bs, ReadAtMost.cons (.tuple g1 g2 g3 g4) (Nat.le_refl _) (hb.mono (Nat.le_of_lt dp)), ?_⟩
    rw [PyData.depth, PyData.shown]
    exact ReprK.tuple g1 g2 g3 off hk
  | _, _, _, .dict (a := a) (es := es) (kvs := kvs) g1 g2 g3 g4 g5, q1, q2, q3, q4 => by
    have e : kvs = [] := by rw [emB] at q3; exact List.isEmpty_iff.mp q3
    subst e
    have e2 : es.toList = [] := by
      have z := none_read g4
      exact List.map_eq_nil_iff.mp z
    have off : (a == sysModules) = false := beq_eq_false_iff_ne.mpr (q2 a (by simp) _ _ _ g1 g3)
    refine ⟨[a], ReadAtMost.cons (.dict g1 g2 g3 g4 g5) (Nat.le_refl _) (fun _ z => by cases z), ?_⟩
    have z : ReprK prog w [a] h (0 + 1) (.ref a) (dictText []) := ReprK.dict g1 g2 g3 off (fun z => by cases z) (by rw [e2]; exact .nil)
    exact z
theorem rks_of : ∀ {vs : List Value} {ds : List PyData} {as : List Addr}, ReadsAll h vs ds as → PyData.showableAll ds = true → Away h as → emBs ds = true → (∀ t, t ∈ PyData.shownAll ds → t.length ≤ sizeLine) →
    ∃ bs, ReadAtMost h (PyData.depthAll ds) bs ∧ ReprAllK prog w bs h (PyData.depthAll ds) vs (PyData.shownAll ds)
  | _, _, _, .nil, _, _, _, _ => ⟨[], fun _ z => (by cases z), by rw [PyData.shownAll]; exact .nil⟩
  | _, _, _, .cons (d := d) (ds := ds) r rs, q1, q2, q3, q4 => by
    rw [PyData.showableAll, Bool.and_eq_true] at q1
    rw [emBs, Bool.and_eq_true] at q3
    rw [PyData.shownAll] at q4
    obtain ⟨b1, y1, k1⟩ := rk_of r q1.1 q2.left q3.1 (q4 _ List.mem_cons_self)
    obtain ⟨b2, y2, k2⟩ := rks_of rs q1.2 q2.right q3.2 fun t ht => q4 t (List.mem_cons_of_mem _ ht)
    rw [PyData.depthAll, PyData.shownAll]
    refine ⟨b1 ++ b2, (y1.mono (Nat.le_max_left _ _)).append (y2.mono (Nat.le_max_right _ _)), .cons ?_ ?_⟩
    · exact (k1.more fun b hb => List.mem_append_left _ hb).level_le (Nat.le_max_left _ _)
    · exact k2.more_le (fun b hb => List.mem_append_right _ hb) (Nat.le_max_right _ _)
end
theorem shows_of {a : Addr} {d : PyData} {as : List Addr} (r : Reads h (.ref a) d as) (q1 : d.showable = true) (q2 : Away h as) (q3 : emB d = true) (q4 : d.shown.length ≤ sizeLine) : ∃ T idr, ShowsBy prog w h a d T idr := by
  cases r with
  | @list _ o vs n xs bs0 g1 g2 g3 g4 =>
    have q4' := q4
    rw [PyData.shown] at q4'
    obtain ⟨bs, hb, hk⟩ := rks_of (prog := prog) (w := w) g4 (by rw [PyData.showable] at q1; exact q1) q2.tl (by rw [emB] at q3; exact q3) fun t ht => Nat.le_trans (listText_mem_le ht) q4'
    have dp : PyData.depthAll xs < (PyData.list xs).depth := by rw [PyData.depth]; exact Nat.lt_succ_self _
    have off : a ∉ bs := not_mem_of_deeper (.list g1 g2 g3 g4) dp hb
    refine ⟨_, _, F.slot_list_repr.toG, F.slot_list_str, F.slot_list_format, fun s k => ⟨o, k _ _ g1, g2⟩, fun A E s Q hg hu k hQ => ?_⟩
    rw [PyData.depth] at hu
    rw [PyData.shown] at hQ
    obtain ⟨l⟩ := vs
    cases l with
    | cons y l => exact call_list_reprK g1 g2 g3 off (by rw [hk.length_eq]; simp) (fun i z e => hk.item i z (by simpa using e)) hg (fun b _ => Clear.nil b) hu k hQ q4'
    | nil =>
      have e : xs = [] := by
        have z : ReadsAll h [] xs _ := g4
        cases z
        rfl
      subst e
      rw [PyData.shownAll, listText_nil] at hQ
      exact call_list_repr_empty ⟨o, k _ _ g1, g2⟩ (k _ _ g1) g3 (hQ s.heap _ _ fun _ _ z => z)
  | @tuple _ o vs n xs _ g1 g2 g3 g4 =>
    have q4' := q4
    rw [PyData.shown] at q4'
    obtain ⟨bs, hb, hk⟩ := rks_of (prog := prog) (w := w) g4 (by rw [PyData.showable] at q1; exact q1) (by first | exact q2.tl | exact q2) (by rw [emB] at q3; exact q3) fun t ht => Nat.le_trans (tupleText_mem_le ht) q4'
    have dp : PyData.depthAll xs < (PyData.tuple xs).depth := by rw [PyData.depth]; exact Nat.lt_succ_self _
    have off : a ∉ bs := not_mem_of_deeper (.tuple g1 g2 g3 g4) dp hb
    refine ⟨_, _, F.slot_tuple_repr, F.slot_tuple_str, F.slot_tuple_format, fun s k => ⟨o, k _ _ g1, g2⟩, fun A E s Q hg hu k hQ => ?_⟩
    rw [PyData.depth] at hu
    rw [PyData.shown] at hQ
    exact call_tuple_reprK g1 g2 g3 off hk hg (fun b _ => Clear.nil b) hu k hQ q4'
  | @dict _ o es n kvs _ _ g1 g2 g3 g4 g5 =>
    have e : kvs = [] := by rw [emB] at q3; exact List.isEmpty_iff.mp q3
    subst e
    have e2 : es.toList = [] := List.map_eq_nil_iff.mp (none_read g4)
    have off : (a == sysModules) = false := beq_eq_false_iff_ne.mpr (q2 a (by simp) _ _ _ g1 g3)
    refine ⟨_, _, F.slot_dict_repr, F.slot_dict_str, F.slot_dict_format, fun s k => ⟨o, k _ _ g1, g2⟩, fun A E s Q hg hu k hQ => ?_⟩
    exact call_dict_reprK (as := []) (d := 0) (ps := []) g1 g2 g3 off (fun z => by cases z) (by rw [e2]; exact .nil) hg (fun b _ => Clear.nil b) hu k hQ q4
end
end Ly

set_option exponentiation.threshold 4000
namespace Ly
open PySem PySem.Spec PyProof.Rows L2
/-! ### repr, also of empty dicts -/
mutual
def toPyR : D → Option PyData
  | .non => some .none
  | .bl b => some (.bool b)
  | .int i => some (.int i)
  | .str x => some (.str x)
  | .dc0 => some (.dict [])
  | .tup l => (toPyRs l).map .tuple
  | .lst l => (toPyRs l).map .list
  | _ => none
def toPyRs : List D → Option (List PyData)
  | [] => some []
  | d :: l => match toPyR d, toPyRs l with
    | some x, some y => some (x :: y)
    | _, _ => none
end
mutual
inductive DpR (K : PySem.W.Frag) (H : Hp) : V → PyData → Prop
  | non : DpR K H .non .none
  | bl (b : Bool) : DpR K H (.bl b) (.bool b)
  | int (i : Int) : DpR K H (.int i) (.int i)
  | str (x : Str) : DpR K H (.str x) (.str x)
  | dct {a : Addr} : H a = some (.dK []) → DpR K H (.ref a) (.dict [])
  | tup {a : Addr} {vs : List V} {ps : List PyData} : SqT K H a vs → DpRs K H vs ps → DpR K H (.ref a) (.tuple ps)
  | lst {a : Addr} {vs : List V} {ps : List PyData} : SqL K H a vs → DpRs K H vs ps → DpR K H (.ref a) (.list ps)
inductive DpRs (K : PySem.W.Frag) (H : Hp) : List V → List PyData → Prop
  | nil : DpRs K H [] []
  | cons {v : V} {vs : List V} {p : PyData} {ps : List PyData} : DpR K H v p → DpRs K H vs ps → DpRs K H (v :: vs) (p :: ps)
end
section
variable {K : PySem.W.Frag} {G : Gh} {H : Hp}
mutual
theorem Rep.dpR : ∀ {v : V} {d : D} {p : PyData}, Rep K G H v d → toPyR d = some p → DpR K H v p
  | _, .non, _, .non, e => by cases e; exact .non
  | _, .bl _, _, .bl _, e => by cases e; exact .bl _
  | _, .int _, _, .int _, e => by cases e; exact .int _
  | _, .str _, _, .str _, e => by cases e; exact .str _
  | _, .dc0, _, .dc0 _ h, e => by cases e; exact .dct h
  | _, .tup l, _, .tup q r, e => by
    simp only [toPyR] at e
    cases h : toPyRs l with
    | none => rw [h] at e; cases e
    | some ps => rw [h] at e; cases e; exact .tup (SqT.of q) (RepL.dpR r h)
  | _, .lst l, _, .lst _ q r, e => by
    simp only [toPyR] at e
    cases h : toPyRs l with
    | none => rw [h] at e; cases e
    | some ps => rw [h] at e; cases e; exact .lst (SqL.of q) (RepL.dpR r h)
  | _, .dct, _, .dct _ _ _, e => by cases e
  | _, .bag _, _, .bag _, e => by cases e
  | _, .ty _, _, .ty _, e => by cases e
  | _, .scr _, _, .scr _, e => by cases e
theorem RepL.dpR : ∀ {vs : List V} {ds : List D} {ps : List PyData}, RepL K G H vs ds → toPyRs ds = some ps → DpRs K H vs ps
  | _, [], _, .nil, e => by cases e; exact .nil
  | _, d :: ds, _, .cons r t, e => by
    simp only [toPyRs] at e
    cases h1 : toPyR d with
    | none => rw [h1] at e; cases e
    | some x =>
      cases h2 : toPyRs ds with
      | none => rw [h1, h2] at e; cases e
      | some y => rw [h1, h2] at e; cases e; exact .cons (Rep.dpR r h1) (RepL.dpR t h2)
end
theorem TmpOk.dpR {j : Nat} {v : V} {r : RV} {p : PyData} (h : TmpOk K G H j v r) (e : toPyR (dOf r) = some p) : DpR K H v p := by
  cases r with
  | val d => exact Rep.dpR h e
  | new l =>
    obtain ⟨a, vs, rfl, g, q, rl⟩ := h
    simp only [dOf, toPyR] at e
    cases h : toPyRs l with
    | none => rw [h] at e; cases e
    | some ps => rw [h] at e; cases e; exact .lst (SqL.of q) (RepL.dpR rl h)
  | newD t m => cases e
end
section
variable {X : Cx} {pins : List (Addr × Obj)} {σ : L2.St} {H : Hp} {s : Shared}
theorem kv_nil {vs : List (Key × Value)} (h : KV ([] : List (Key × V)) vs) : vs = [] := by cases h; rfl
mutual
theorem DpR.reads (I : Inv X pins σ H s) : ∀ (p : PyData) (v : V) (u : Value), DpR X.K H v p → RelV v u → ∃ as, Reads s.heap u p as ∧ Away s.heap as
  | .none, _, _, h, r => by cases h; cases r; exact ⟨_, .none, fun _ z => by cases z⟩
  | .bool b, _, _, h, r => by cases h; cases r; exact ⟨_, .bool b, fun _ z => by cases z⟩
  | .int i, _, _, h, r => by cases h; obtain ⟨t, rfl⟩ := r; exact ⟨_, .int i t, fun _ z => by cases z⟩
  | .str x, _, _, h, r => by cases h; obtain ⟨t, rfl⟩ := r; exact ⟨_, .str x t, fun _ z => by cases z⟩
  | .list ds, _, _, h, r => by
    cases h with
    | @lst a vs _ hs ha =>
      cases r
      obtain ⟨its, rv, ⟨o, n, ho, hc, _, hd⟩, _⟩ := I.list hs
      obtain ⟨as, hr, aw⟩ := DpRs.reads I ds vs its ha rv
      refine ⟨_, .list ho hc hd hr, fun b hb o' es n' e e2 => ?_⟩
      rcases List.mem_cons.mp hb with z | z
      · rw [z, ho] at e; cases e; rw [hd] at e2; cases e2
      · exact aw b z o' es n' e e2
  | .tuple ds, _, _, h, r => by
    cases h with
    | @tup a vs _ hs ha =>
      cases r
      obtain ⟨its, rv, ⟨o, ho, hc, n, hd⟩, _⟩ := I.tuple hs
      obtain ⟨as, hr, aw⟩ := DpRs.reads I ds vs its ha rv
      exact ⟨_, .tuple ho hc hd hr, aw⟩
  | .dict kvs, _, _, h, r => by
    cases h with
    | @dct a ha =>
      cases r
      obtain ⟨_, hs, vs, kv, o, es, ep, ho, hx, hd, _, hp, _⟩ := I.hok _ _ ha
      have e0 := kv_nil kv
      subst e0
      have e2 : es.toList = [] := by cases q : es.toList with
        | nil => rfl
        | cons y ys => rw [q] at hp; cases hp
      refine ⟨_, .dict (kvs := []) (as := []) (bs := []) ho hx.1 hd (by rw [e2]; exact .nil) (by rw [e2]; exact .nil), fun b hb o' es' n' e e3 => ?_⟩
      simp at hb
      rw [hb]
      exact beq_eq_false_iff_ne.mp hs
theorem DpRs.reads (I : Inv X pins σ H s) : ∀ (ps : List PyData) (vs : List V) (us : List Value), DpRs X.K H vs ps → Vals vs us → ∃ as, ReadsAll s.heap us ps as ∧ Away s.heap as
  | [], _, _, h, r => by cases h; cases r; exact ⟨_, .nil, fun _ z => by cases z⟩
  | p :: ps, _, _, h, r => by
    cases h with
    | cons h1 h2 =>
      cases r with
      | cons r1 r2 =>
        obtain ⟨as, q1, a1⟩ := DpR.reads I p _ _ h1 r1
        obtain ⟨bs, q2, a2⟩ := DpRs.reads I ps _ _ h2 r2
        refine ⟨_, .cons q1 q2, fun b hb => ?_⟩
        rcases List.mem_append.mp hb with z | z
        · exact a1 b z
        · exact a2 b z
end
end
def showsR (p : PyData) : Prop := p.showable = true ∧ emB p = true ∧ p.depth ≤ 60 ∧ p.shown.length ≤ sizeLine
def rReprR (K : PySem.W.Frag) : List V → Hp → VK → Prop := fun xs H Q => ∃ v p, xs = [v] ∧ DpR K H v p ∧ showsR p ∧ Q (.str p.shown) H
theorem call_reprR {X : Cx} (hg : X.A.guards = some []) (hu : X.A.units + 64 < cLine) : CallR X (.builtin "repr") (rReprR X.K) := by
  intro pins st sl H xs us Q I r hh
  obtain ⟨v, p, rfl, hd, ⟨hs, hnd, hdep, hz⟩, q⟩ := hh
  obtain ⟨u, rfl, ru⟩ := vals1 r
  obtain ⟨as, rd, aw⟩ := DpR.reads I p v u hd ru
  have sl2 : ∀ a : Addr, u = .ref a → wpAny (model X.prog X.w) X.A (call (.builtin "repr") [u]) (fun u' s' => ∃ x H', Inv X pins sl H' s' ∧ RelV x u' ∧ Q x H') X.xe st := fun a e => by
    subst e
    obtain ⟨T, idr, S⟩ := shows_of (prog := X.prog) (w := X.w) rd hs aw hnd hz
    refine call_repr_slot (by omega) (S.typeIs st fun _ _ z => z) S.slotRepr ?_
    refine S.call X.A.in1 _ st _ hg (by show X.A.units + 1 + p.depth < cLine; omega) (fun _ _ z => z) fun h' u' tk hk => ?_
    exact ⟨_, _, rfl, .str _, H, I.kept (h' := h') (t' := tk) hk, ⟨_, rfl⟩, q⟩
  cases hd with
  | non => cases ru; exact PySem.P.repr_of_none ⟨.str _, H, I.tok _, ⟨_, rfl⟩, by simpa [PyData.shown] using q⟩
  | bl b => cases ru; exact PySem.P.repr_of_bool ⟨.str _, H, I.tok _, ⟨_, rfl⟩, by cases b <;> simpa [PyData.shown] using q⟩
  | int i => obtain ⟨t, rfl⟩ := ru; exact PySem.P.repr_of_int (by simpa [PyData.showable] using hs) ⟨.str _, H, I.tok _, ⟨_, rfl⟩, by simpa [PyData.shown] using q⟩
  | str x => obtain ⟨t, rfl⟩ := ru; exact PySem.P.repr_of_str ⟨.str _, H, I.tok _, ⟨_, rfl⟩, by simpa [PyData.shown] using q⟩ (by simpa [PyData.shown] using hz)
  | lst _ _ => cases ru; exact sl2 _ rfl
  | tup _ _ => cases ru; exact sl2 _ rfl
  | dct _ => cases ru; exact sl2 _ rfl
section
variable {B : Bs} {K : PySem.W.Frag}
def gReprR : G1 := fun rs R => ∃ r p, rs = [r] ∧ toPyR (dOf r) = some p ∧ showsR p ∧ R (.val (.str p.shown))
theorem snd_reprR : SndC K B gReprR (rReprR K) := by
  rintro G H σ ρ n τ vs rs R Q e hl ⟨r, p, rfl, hp, hs, hR⟩ k
  obtain ⟨v, rfl⟩ := len1 hl
  have e : EnvOk K B.1 B.2 G H σ ρ n (τ ++ [(v, r)]) := e
  exact ⟨v, p, rfl, e.top.dpR hp, hs, k _ _ _ _ hR (e.pop.pushV (.str _))⟩
end
/-- d can be shown, no deeper than k, in at most b signs -/
def ShR (k b : Nat) (d : D) : Prop := ∃ p, toPyR d = some p ∧ p.showable = true ∧ emB p = true ∧ p.depth ≤ k ∧ p.shown.length ≤ b
def ShRs (k b : Nat) (l : List D) : Prop := ∃ ps, toPyRs l = some ps ∧ PyData.showableAll ps = true ∧ emBs ps = true ∧ PyData.depthAll ps ≤ k ∧ piled (PyData.shownAll ps) ≤ l.length * (b + 2) ∧ ps.length = l.length
theorem ShR.mono {k b k' b' : Nat} {d : D} (h : ShR k b d) (hk : k ≤ k') (hb : b ≤ b') : ShR k' b' d := by
  obtain ⟨p, h1, h2, h3, h4, h5⟩ := h
  exact ⟨p, h1, h2, h3, Nat.le_trans h4 hk, Nat.le_trans h5 hb⟩
def shRB (k b : Nat) (d : D) : Bool := match toPyR d with
  | some p => p.showable && emB p && decide (p.depth ≤ k) && decide (p.shown.length ≤ b)
  | none => false
theorem shR_of {k b : Nat} {d : D} (h : shRB k b d = true) : ShR k b d := by
  unfold shRB at h
  split at h
  · rename_i p e
    simp at h
    exact ⟨p, e, h.1.1.1, h.1.1.2, h.1.2, h.2⟩
  · cases h
theorem shR_non : ShR 0 4 .non := shR_of (by decide +kernel)
theorem shR_dc0 : ShR 1 2 .dc0 := shR_of (by decide +kernel)
theorem shR_bl {b : Bool} : ShR 0 5 (.bl b) := by cases b <;> exact shR_of (by decide +kernel)
theorem shR_int {i : Int} {k : Nat} (hk : 0 < k) (hk2 : k ≤ 500) (h : i.natAbs < 10 ^ k) : ShR 0 (k + 1) (.int i) := by
  refine ⟨.int i, rfl, ?_, rfl, Nat.le_refl _, ?_⟩
  · have h2 : i.natAbs < 10 ^ 500 := Nat.lt_of_lt_of_le h (Nat.pow_le_pow_right (by decide) hk2)
    have h3 : (10 : Nat) ^ 500 ≤ 2 ^ 1920 := by decide +kernel
    have h4 : i.natAbs.log2 < 1920 := by
      by_cases z : i.natAbs = 0
      · rw [z]; decide
      · exact (Nat.log2_lt z).mpr (Nat.lt_of_lt_of_le h2 h3)
    exact decide_eq_true h4
  · show (Str.ofString (toString i)).length ≤ _
    rw [PySem.ofString_length]
    exact int_text_length_le10 hk h
theorem shRs_of {k b : Nat} : ∀ {l : List D}, (∀ d ∈ l, ShR k b d) → ShRs k b l
  | [], _ => ⟨[], rfl, rfl, rfl, Nat.zero_le _, by simp [PyData.shownAll, piled_nil], rfl⟩
  | d :: l, h => by
    obtain ⟨p, h1, h2, h3, h4, h5⟩ := h d (List.mem_cons_self ..)
    obtain ⟨ps, g1, g2, g3, g4, g5, g6⟩ := shRs_of (l := l) fun x hx => h x (List.mem_cons_of_mem _ hx)
    refine ⟨p :: ps, ?_, ?_, ?_, ?_, ?_, by rw [List.length_cons, List.length_cons, g6]⟩
    · simp only [toPyRs, h1, g1]
    · simp only [PyData.showableAll, h2, g2, Bool.and_self]
    · simp only [emBs, h3, g3, Bool.and_self]
    · simp only [PyData.depthAll]; omega
    · simp only [PyData.shownAll]
      rw [piled_cons, List.length_cons, Nat.add_mul]; omega
theorem tupText_le (ts : List Str) : (tupleText ts).length ≤ piled ts + 2 := by
  unfold tupleText
  rw [strLen_append, strLen_append]
  have e : (Str.ofString (if (ts.length == 1) = true then ",)" else ")")).length ≤ 2 := by
    split <;> (rw [PySem.ofString_length]; decide)
  have e1 : (Str.ofString "(").length = 1 := by rw [PySem.ofString_length]; rfl
  by_cases h : ts = []
  · subst h
    have z : (Str.ofString (if (([] : List Str).length == 1) = true then ",)" else ")")).length = 1 := by rw [PySem.ofString_length]; rfl
    show _ + (Str.empty).length + _ ≤ _
    have z2 : Str.empty.length = 0 := rfl
    rw [z2]
    omega
  · have j := join_length_add ts h
    omega
theorem lstText_le (ts : List Str) : (listText ts).length ≤ piled ts + 2 := by
  unfold listText
  rw [strLen_append]
  have e1 : (Str.ofString "[").length = 1 := by rw [PySem.ofString_length]; rfl
  have e2 : (Str.ofString "]").length = 1 := by rw [PySem.ofString_length]; rfl
  cases ts with
  | nil => show (Str.ofString "[").length + _ ≤ _; omega
  | cons t r =>
    show (textFrom 1 (Str.ofString "[" ++ (if 0 > 0 then ", " else "" : String) ++ t) r).length + _ ≤ _
    rw [textFrom_length_pos r 1 _ (by decide), strLen_append, strLen_append, piled_cons]
    have e3 : (Str.ofString (if 0 > 0 then ", " else "" : String)).length = 0 := by rw [PySem.ofString_length]; rfl
    omega
theorem shR_tup {k b : Nat} {l : List D} (h : ∀ d ∈ l, ShR k b d) : ShR (k + 1) (l.length * (b + 2) + 2) (.tup l) := by
  obtain ⟨ps, g1, g2, g3, g4, g5, g6⟩ := shRs_of h
  refine ⟨.tuple ps, by simp only [toPyR, g1, Option.map_some], g2, g3, ?_, ?_⟩
  · simp only [PyData.depth]; omega
  · simp only [PyData.shown]
    exact Nat.le_trans (tupText_le _) (by omega)
theorem shR_lst {k b : Nat} {l : List D} (h : ∀ d ∈ l, ShR k b d) : ShR (k + 1) (l.length * (b + 2) + 2) (.lst l) := by
  obtain ⟨ps, g1, g2, g3, g4, g5, g6⟩ := shRs_of h
  refine ⟨.list ps, by simp only [toPyR, g1, Option.map_some], g2, g3, ?_, ?_⟩
  · simp only [PyData.depth]; omega
  · simp only [PyData.shown]
    exact Nat.le_trans (lstText_le _) (by omega)
/-- what repr gives -/
def reprD (d : D) : Str := match toPyR d with
  | some p => p.shown
  | none => Str.empty
theorem gReprR_of {r : RV} {R : RV → Prop} {k b : Nat} (h : ShR k b (dOf r)) (hk : k ≤ 60) (hb : b ≤ 10000000) (q : R (.val (.str (reprD (dOf r))))) : gReprR [r] R := by
  obtain ⟨p, e, h2, h3, h4, h5⟩ := h
  refine ⟨r, p, rfl, e, ⟨h2, h3, Nat.le_trans h4 hk, Nat.le_trans h5 (Nat.le_trans hb (by decide))⟩, ?_⟩
  unfold reprD at q
  rw [e] at q
  exact q
end Ly

namespace Ly
open PySem PySem.Spec PyProof.Rows L2
theorem kI_non : isiB .non "int" = some false := by rw [kI]
theorem kI_bl {b : Bool} : isiB (.bl b) "int" = some true := by rw [kI]
theorem kI_int {i : Int} : isiB (.int i) "int" = some true := by rw [kI]
theorem kI_str {s : Str} : isiB (.str s) "int" = some false := by rw [kI]
theorem kI_tup {l : List D} : isiB (.tup l) "int" = some false := by rw [kI]
theorem kI_lst {l : List D} : isiB (.lst l) "int" = some false := by rw [kI]
theorem kI_dct : isiB .dct "int" = some false := by rw [kI]
theorem kI_dc0 : isiB .dc0 "int" = some false := by rw [kI]
theorem kB_non : isiB .non "bool" = some false := by rw [kB]
theorem kB_bl {b : Bool} : isiB (.bl b) "bool" = some true := by rw [kB]
theorem kB_int {i : Int} : isiB (.int i) "bool" = some false := by rw [kB]
theorem kB_str {s : Str} : isiB (.str s) "bool" = some false := by rw [kB]
theorem kB_tup {l : List D} : isiB (.tup l) "bool" = some false := by rw [kB]
theorem kB_lst {l : List D} : isiB (.lst l) "bool" = some false := by rw [kB]
theorem kB_dct : isiB .dct "bool" = some false := by rw [kB]
theorem kB_dc0 : isiB .dc0 "bool" = some false := by rw [kB]
theorem kT_non : isiB .non "tuple" = some false := by rw [kT]
theorem kT_bl {b : Bool} : isiB (.bl b) "tuple" = some false := by rw [kT]
theorem kT_int {i : Int} : isiB (.int i) "tuple" = some false := by rw [kT]
theorem kT_str {s : Str} : isiB (.str s) "tuple" = some false := by rw [kT]
theorem kT_tup {l : List D} : isiB (.tup l) "tuple" = some true := by rw [kT]
theorem kT_lst {l : List D} : isiB (.lst l) "tuple" = some false := by rw [kT]
theorem kT_dct : isiB .dct "tuple" = some false := by rw [kT]
theorem kT_dc0 : isiB .dc0 "tuple" = some false := by rw [kT]
theorem kS_non : isiB .non "str" = some false := by rw [kS]
theorem kS_bl {b : Bool} : isiB (.bl b) "str" = some false := by rw [kS]
theorem kS_int {i : Int} : isiB (.int i) "str" = some false := by rw [kS]
theorem kS_str {s : Str} : isiB (.str s) "str" = some true := by rw [kS]
theorem kS_tup {l : List D} : isiB (.tup l) "str" = some false := by rw [kS]
theorem kS_lst {l : List D} : isiB (.lst l) "str" = some false := by rw [kS]
theorem kS_dct : isiB .dct "str" = some false := by rw [kS]
theorem kS_dc0 : isiB .dc0 "str" = some false := by rw [kS]
end Ly

namespace Ly
open PySem PySem.Spec PyProof.Rows L2
section
variable {K : PySem.W.Frag} {B : Bs}
/-! ### sorted -/
def keyOfD (d : D) : List (Int ⊕ List Nat) := match toPy d with
  | some p => PySem.W.keyToks p
  | none => []
def leD (x y : D) : Bool := PySem.W.sortLe (listOrd itemOrd) false keyOfD x y
def sortD (l : List D) : List D := l.mergeSort leD
def gSorted : G1 := fun rs R => ∃ r l ps, rs = [r] ∧ listOf r = some l ∧ toPys l = some ps ∧ PySem.W.AllAlike ps ∧ (PySem.W.Sortable ps ∨ PySem.W.SortableM ps) ∧ (∀ p ∈ ps, p.depth ≤ 60) ∧ R (.new (sortD l))
theorem rep_each {G : Gh} {H : Hp} : ∀ {vs : List V} {ds : List D} {ps : List PyData}, RepL K G H vs ds → toPys ds = some ps → PySem.W.EachIs (fun (q : V × PyData) d => Rep K G H q.1 d ∧ PySem.W.keyToks q.2 = keyOfD d) (vs.zip ps) ds
  | _, _, _, .nil, e => by cases e; exact .nil
  | _, _, _, .cons (d := d) (ds := ds) r t, e => by
    simp only [toPys] at e
    cases h1 : toPy d with
    | none => rw [h1] at e; cases e
    | some x =>
      cases h2 : toPys ds with
      | none => rw [h1, h2] at e; cases e
      | some y =>
        rw [h1, h2] at e
        cases e
        exact .cons ⟨r, by unfold keyOfD; rw [h1]⟩ (rep_each t h2)
theorem each_rep {G : Gh} {H : Hp} {P : V × PyData → D → Prop} : ∀ {qs : List (V × PyData)} {ds : List D}, PySem.W.EachIs (fun (q : V × PyData) d => Rep K G H q.1 d ∧ P q d) qs ds → RepL K G H (qs.map Prod.fst) ds
  | _, _, .nil => .nil
  | _, _, .cons h t => .cons h.1 (each_rep t)
theorem dpAll_len {H : Hp} : ∀ {vs : List V} {ps : List PyData}, DpAll K H vs ps → vs.length = ps.length
  | _, _, .nil => rfl
  | _, _, .cons _ t => by rw [List.length_cons, List.length_cons, dpAll_len t]
theorem snd_sorted : SndC K B gSorted (rSortD K) := by
  rintro G H σ ρ n τ vs rs R Q e hl ⟨r, l, ps, rfl, hr, hp, h1, h2, h3, hR⟩ k
  obtain ⟨v, rfl⟩ := len1 hl
  have e : EnvOk K B.1 B.2 G H σ ρ n (τ ++ [(v, r)]) := e
  obtain ⟨a, ws, rfl, sq, rl⟩ := tmp_list e.top hr
  refine ⟨a, ws, ps, rfl, SqL.of sq, RepL.dp rl hp, h1, h2, h3, fun p' hn => k _ _ _ _ hR (e.pop.pushNew hn ?_)⟩
  refine each_rep (P := fun q d => PySem.W.keyToks q.2 = keyOfD d) (PySem.W.sort_each (rep_each rl hp) fun x hx y hy => ?_)
  have z1 := (((rep_each rl hp).zip x hx).2)
  have z2 := (((rep_each rl hp).zip y hy).2)
  unfold keyLeP leD PySem.W.sortLe
  dsimp only
  rw [z1, z2]
/-! ### in, not in -/
def rInQ (K : PySem.W.Frag) (neg : Bool) : R2 := fun x y H Q => ∃ d ds, Dp K H x d ∧ (Dp K H y (.list ds) ∨ Dp K H y (.tuple ds)) ∧ SeqAt.shaped d = true ∧ SeqAt.shaped (.list ds) = true ∧ Q (.bl (xor neg (ds.any fun z => PyData.eqv z d))) H
theorem op_inQ {X : Cx} (hu : X.A.units + 65 < cLine) : OpR X (compareOp .In) (rInQ X.K false) := by
  intro pins s σ H x y v u Q I rx ry h
  obtain ⟨d, ds, hd, he, sd, se, q⟩ := h
  rw [Bool.false_xor] at q
  obtain ⟨as, r1⟩ := Dp.reads I d x v hd rx
  have c1 := SeqAt.canLay_of_shaped se
  have c2 := SeqAt.canLay_of_shaped sd
  rcases he with he | he
  · obtain ⟨bs, r2⟩ := Dp.reads I (.list ds) y u he ry
    exact SeqAt.in_list_reads r2 r1 c1 c2 (room_in_shaped sd hu) ⟨.bl _, H, I, rfl, q⟩
  · obtain ⟨bs, r2⟩ := Dp.reads I (.tuple ds) y u he ry
    exact SeqAt.in_tuple_reads r2 r1 c1 c2 (room_in_shaped sd hu) ⟨.bl _, H, I, rfl, q⟩
theorem op_ninQ {X : Cx} (hu : X.A.units + 65 < cLine) : OpR X (compareOp .NotIn) (rInQ X.K true) := by
  intro pins s σ H x y v u Q I rx ry h
  obtain ⟨d, ds, hd, he, sd, se, q⟩ := h
  rw [Bool.true_xor] at q
  obtain ⟨as, r1⟩ := Dp.reads I d x v hd rx
  have c1 := SeqAt.canLay_of_shaped se
  have c2 := SeqAt.canLay_of_shaped sd
  rcases he with he | he
  · obtain ⟨bs, r2⟩ := Dp.reads I (.list ds) y u he ry
    exact SeqAt.notIn_list_reads r2 r1 c1 c2 (room_in_shaped sd hu) ⟨.bl _, H, I, rfl, q⟩
  · obtain ⟨bs, r2⟩ := Dp.reads I (.tuple ds) y u he ry
    exact SeqAt.notIn_tuple_reads r2 r1 c1 c2 (room_in_shaped sd hu) ⟨.bl _, H, I, rfl, q⟩
def gIn (neg : Bool) : G2 := fun r1 r2 R => ∃ p l ps, toPy (dOf r1) = some p ∧ seqOf r2 = some l ∧ toPys l = some ps ∧ SeqAt.shaped p = true ∧ SeqAt.shaped (.list ps) = true ∧ R (.val (.bl (xor neg (ps.any fun z => PyData.eqv z p))))
theorem snd_in {neg : Bool} : SndO K B (gIn neg) (rInQ K neg) := by
  intro G H σ ρ n τ v1 v2 r1 r2 R Q e hg k
  obtain ⟨p, l, ps, h1, h2, h3, h4, h5, hR⟩ := hg
  obtain ⟨a, vs, rfl, sq, rl⟩ := tmp_seq e.top h2
  refine ⟨p, ps, e.top2.dp h1, ?_, h4, h5, k _ _ _ _ hR (e.pop.pop.pushV (.bl _))⟩
  rcases sq with sq | sq
  · exact .inl (.lst sq (RepL.dp rl h3))
  · exact .inr (.tup sq (RepL.dp rl h3))
end
section
variable {X : Cx} {B : Bs} {a b e : Expr} {es : List Expr} {pos p : Pos} {wa wb : TD} {ws : TDA} {x : Str}
theorem de_in (hu : X.A.units + 65 < cLine) (ha : DE X B a wa) (hb : DE X B b wb) (hm : behindInMarks .In b = false := by rfl) : DE X B (.Compare a [.In] [b] pos) (wOp (gIn false) wa wb) := de_cmp snd_in (op_inQ hu) ha hb hm
theorem de_nin (hu : X.A.units + 65 < cLine) (ha : DE X B a wa) (hb : DE X B b wb) (hm : behindInMarks .NotIn b = false := by rfl) : DE X B (.Compare a [.NotIn] [b] pos) (wOp (gIn true) wa wb) := de_cmp snd_in (op_ninQ hu) ha hb hm
theorem dt_in (hu : X.A.units + 65 < cLine) (ha : DE X B a wa) (hb : DE X B b wb) (hm : behindInMarks .In b = false := by rfl) : DT X B (.Compare a [.In] [b] pos) (wTst (wOp (gIn false) wa wb)) := dt_cmp snd_in (op_inQ hu) ha hb hm
theorem dt_nin (hu : X.A.units + 65 < cLine) (ha : DE X B a wa) (hb : DE X B b wb) (hm : behindInMarks .NotIn b = false := by rfl) : DT X B (.Compare a [.NotIn] [b] pos) (wTst (wOp (gIn true) wa wb)) := dt_cmp snd_in (op_ninQ hu) ha hb hm
/-! ### in a tuple of texts that the top holds -/
structure GTup (K : PySem.W.Frag) (mg : Str → Option Value) (x : Str) (ss : List Str) : Prop where
  ex : ∃ q, mg x = some (.ref q) ∧ ∀ H, Dp K H (.ref q) (.tuple (ss.map .str))
  ok : SeqAt.shaped (.list (ss.map PyData.str)) = true
def wInG (neg : Bool) (ss : List Str) (w : TD) : TD := fun ρ n Q => w ρ n fun r ρ1 n1 => ∃ p, toPy (dOf r) = some p ∧ SeqAt.shaped p = true ∧ Q (.val (.bl (xor neg ((ss.map PyData.str).any fun z => PyData.eqv z p)))) ρ1 n1
theorem tInG_of {K : PySem.W.Frag} {neg : Bool} {ss : List Str} {q : Addr} (hk : ∀ H, Dp K H (.ref q) (.tuple (ss.map .str))) (hs : SeqAt.shaped (.list (ss.map PyData.str)) = true) {σ : L2.St} {H : Hp} {Q : VK} (h : tD K B (wInG neg ss wa) σ H Q) : tOp (rInQ K neg) (tD K B wa) (tC (.ref q)) σ H Q := by
  obtain ⟨G, ρ, n, τ, Q', e, hw, k⟩ := h
  exact ⟨G, ρ, n, τ, _, e, hw, fun r ρ1 n1 v G1 H1 ⟨d, h1, h2, h3⟩ e1 => ⟨d, _, e1.top.dp h1, .inr (hk H1), h2, hs, k _ _ _ _ _ _ h3 (e1.pop.pushV (.bl _))⟩⟩
theorem de_inG {ss : List Str} (hu : X.A.units + 65 < cLine) (T : GTup X.K X.mg x ss) (hg : Gl X x) (ha : DE X B a wa) (hd : (x == ("__debug__" : Str)) = false := by decide) (hm : behindInMarks .In (.Name x p) = false := by rfl) : DE X B (.Compare a [.In] [.Name x p] pos) (wInG false ss wa) := by
  obtain ⟨q, h1, h2⟩ := T.ex
  exact PE.imp (pe_cmpR (op_inQ hu) ha (pe_glob (v := .ref q) hg h1 rfl hd) hm) fun _ _ _ h => tInG_of h2 T.ok h
theorem de_ninG {ss : List Str} (hu : X.A.units + 65 < cLine) (T : GTup X.K X.mg x ss) (hg : Gl X x) (ha : DE X B a wa) (hd : (x == ("__debug__" : Str)) = false := by decide) (hm : behindInMarks .NotIn (.Name x p) = false := by rfl) : DE X B (.Compare a [.NotIn] [.Name x p] pos) (wInG true ss wa) := by
  obtain ⟨q, h1, h2⟩ := T.ex
  exact PE.imp (pe_cmpR (op_ninQ hu) ha (pe_glob (v := .ref q) hg h1 rfl hd) hm) fun _ _ _ h => tInG_of h2 T.ok h
theorem dt_inG {ss : List Str} (hu : X.A.units + 65 < cLine) (T : GTup X.K X.mg x ss) (hg : Gl X x) (ha : DE X B a wa) (hd : (x == ("__debug__" : Str)) = false := by decide) (hm : behindInMarks .In (.Name x p) = false := by rfl) : DT X B (.Compare a [.In] [.Name x p] pos) (wTst (wInG false ss wa)) := by
  obtain ⟨q, h1, h2⟩ := T.ex
  exact PT.imp (pt_cmpR (op_inQ hu) ha (pe_glob (v := .ref q) hg h1 rfl hd) hm) fun _ _ _ h => tTest_of (fun _ _ _ h => tInG_of h2 T.ok h) h
theorem dt_ninG {ss : List Str} (hu : X.A.units + 65 < cLine) (T : GTup X.K X.mg x ss) (hg : Gl X x) (ha : DE X B a wa) (hd : (x == ("__debug__" : Str)) = false := by decide) (hm : behindInMarks .NotIn (.Name x p) = false := by rfl) : DT X B (.Compare a [.NotIn] [.Name x p] pos) (wTst (wInG true ss wa)) := by
  obtain ⟨q, h1, h2⟩ := T.ex
  exact PT.imp (pt_cmpR (op_ninQ hu) ha (pe_glob (v := .ref q) hg h1 rfl hd) hm) fun _ _ _ h => tTest_of (fun _ _ _ h => tInG_of h2 T.ok h) h
theorem eqv_str (s : Str) (d : D) {p : PyData} (h : toPy d = some p) : PyData.eqv (.str s) p = (match d with | .str x => s == x | _ => false) := by
  cases d <;> simp [toPy] at h <;> first | (subst h; rfl) | (obtain ⟨_, _, rfl⟩ := h; rfl)
def isStrIn (ss : List Str) (d : D) : Bool := match d with
  | .str x => decide (x ∈ ss)
  | _ => false
theorem any_strs {ss : List Str} {d : D} {p : PyData} (h : toPy d = some p) : ((ss.map PyData.str).any fun z => PyData.eqv z p) = isStrIn ss d := by
  rw [List.any_map]
  have e : ((fun z => PyData.eqv z p) ∘ PyData.str) = fun s => (match d with | .str x => s == x | _ => false) := funext fun s => eqv_str s d h
  rw [e]
  unfold isStrIn
  cases d <;> simp
  rename_i x
  rw [Bool.eq_iff_iff]
  simp
/-! ### l.extend(..) -/
def wExt (i : Nat) (w : TD) : TD := fun ρ n Q => (∃ l, ρ[i]? = some (.own l)) ∧ w ρ n fun r ρ1 n1 => ∃ l m, ρ1[i]? = some (.own l) ∧ listOf r = some m ∧ l.length + m.length ≤ sizeLine ∧ Q (.val .non) (ρ1.set i (.own (l ++ m))) n1
theorem de_ext {i : Nat} (h : PE X e (tBM X.K "list" rExtend (tVar i) (tCons (tD X.K B wa) tNil))) : DE X B e (wExt i wa) :=
  PE.imp h fun σ H Q ⟨G, ρ, n, τ, Q', e, ⟨⟨l, hl⟩, hw⟩, k⟩ => by
    obtain ⟨p, vs, ev, g, hp, rl⟩ := own_at e hl
    refine ⟨_, ev, .inl ⟨rfl, _, SqL.of hp⟩, G, ρ, n, τ, _, e, hw, fun r ρ1 n1 v G1 H1 ⟨l1, m, hl1, hm, hz, h1⟩ e1 => ?_⟩
    obtain ⟨b, zs, rfl, hb, rb⟩ := tmp_list e1.top hm
    obtain ⟨p', ws, ev', g', hp', rl'⟩ := own_at e1.pop hl1
    rw [ev] at ev'
    cases ev'
    obtain ⟨x3, e3⟩ := EnvOk.mutate e1.pop hl1 ev g' hp' (rl'.append rb)
    exact ⟨p, b, ws, zs, rfl, rfl, hp', hb, by rw [rl'.length, rb.length]; exact hz, k _ _ _ _ _ _ h1 (e3.pushV .non)⟩
/-! ### [..] * k -/
def gRepL : G2 := fun r1 r2 R => ∃ l k, listOf r1 = some l ∧ r2 = .val (.int k) ∧ 0 ≤ k ∧ k ≤ 1000 ∧ l.length ≤ 1000 ∧ R (.new (List.replicate k.toNat l).flatten)
theorem snd_repL {K : PySem.W.Frag} : SndO K B gRepL rRep := by
  intro G H σ ρ n τ v1 v2 r1 r2 R Q e hg k
  obtain ⟨l, j, h1, rfl, h2, h3, h4, hR⟩ := hg
  have t := e.topV
  cases t
  obtain ⟨a, vs, rfl, ha, rl⟩ := tmp_list e.top2 h1
  refine ⟨a, j, vs, rfl, rfl, ha, by omega, by omega, ?_, fun p hp => k _ _ _ _ hR (e.pop.pop.pushNew hp (rl.rep _))⟩
  rw [rl.length]
  have : l.length * j.toNat ≤ 1000 * 1000 := Nat.mul_le_mul h4 (by omega)
  exact Nat.le_trans this (by decide)
theorem de_repL (ha : DE X B a wa) (hb : DE X B b wb) : DE X B (.BinOp a .Mult b pos) (wOp gRepL wa wb) := de_op snd_repL op_rep ha hb
/-! ### str(a whole number) -/
def gStrI : G1 := fun rs R => ∃ i, rs = [.val (.int i)] ∧ i.natAbs < 10 ^ 500 ∧ R (.val (.str (toString i)))
theorem snd_strI {K : PySem.W.Frag} : SndC K B gStrI (fun xs H Q => ∃ i, xs = [.int i] ∧ i.natAbs.log2 < 1920 ∧ Q (.str (toString i)) H) := by
  rintro G H σ ρ n τ vs rs R Q e hl ⟨i, rfl, hi, hR⟩ k
  obtain ⟨v, rfl⟩ := len1 hl
  have e : EnvOk K B.1 B.2 G H σ ρ n (τ ++ [(v, .val (.int i))]) := e
  have t := e.topV
  cases t
  have h3 : (10 : Nat) ^ 500 ≤ 2 ^ 1920 := by decide +kernel
  refine ⟨i, rfl, ?_, k _ _ _ _ hR (e.pop.pushV (.str _))⟩
  by_cases z : i.natAbs = 0
  · rw [z]; decide
  · exact (Nat.log2_lt z).mpr (Nat.lt_of_lt_of_le hi h3)
/-! ### f(k = .., ..) -/
def pick {α : Type} (ix : List Nat) (l : List α) : List α := ix.filterMap fun i => l[i]?
theorem pick_vals {ix : List Nat} {zs : List V} {ws : List Value} (h : Vals zs ws) : Vals (pick ix zs) (pick ix ws) := by
  unfold pick
  induction ix with
  | nil => exact .nil
  | cons i ix ih =>
    rw [List.filterMap_cons, List.filterMap_cons]
    have e : (∃ z u, zs[i]? = some z ∧ ws[i]? = some u ∧ RelV z u) ∨ (zs[i]? = none ∧ ws[i]? = none) := by
      clear ih
      induction h generalizing i with
      | nil => exact .inr ⟨rfl, rfl⟩
      | cons r _ ih2 => cases i with
        | zero => exact .inl ⟨_, _, rfl, rfl, r⟩
        | succ i => exact ih2 i
    rcases e with ⟨z, u, e1, e2, r⟩ | ⟨e1, e2⟩
    · rw [e1, e2]; exact .cons r ih
    · rw [e1, e2]; exact ih
structure KB0 (K : PySem.W.Frag) (fd : FuncData) (ps ks : List Str) (ix : List Nat) : Prop where
  to : ∀ (s : Shared) (ws : List Value), K.In s.heap → ws.length = ps.length → BindsTo s fd ⟨[], ks.zip ws⟩ (ps.zip (pick ix ws))
  ln : ∀ ws : List Value, ws.length = ps.length → (pick ix ws).length = ps.length
theorem kb_of {K : PySem.W.Frag} {x qual : Str} {st : Stmt} {f : Addr} {fd : FuncData} {ps ks : List Str} {ix : List Nat} (F : Fun K x qual st f fd)
    (h : ∀ (kV doc pm : Value) (an : Option Addr) (cdv ct : Value) (ws : List Value), ws.length = ps.length → bindArgs (PySem.W.fnOf x qual (defArgs st) (defBody st) (defScope st) .none kV doc pm an cdv ct) ⟨[], ks.zip ws⟩ = pure (ps.zip (pick ix ws)))
    (hl : ∀ ws : List Value, ws.length = ps.length → (pick ix ws).length = ps.length) : KB0 K fd ps ks ix := by
  obtain ⟨oc, od, kV, doc, pm, an, cdv, ct, osl, rfl, lk, hcd⟩ := F.ex
  exact ⟨fun s ws _ hw => .of_eq (h kV doc pm an cdv ct ws hw), hl⟩
def tCallK0 (sp : Sp) (m : Nat) (ix : List Nat) (E : XK) (tk : TA) : TE := fun σ H Q => tk σ H fun zs H2 => zs.length = m ∧ sp (pick ix zs) H2 Q E
theorem pe_callK0 {CX : CXT} {k m : Nat} {f : Addr} {fd : FuncData} {ps ks : List Str} {ix : List Nat} {sp : Sp} {E : XK} {kws : List Keyword} {tk : TA} (F : FnOk X.prog X.w X.K X.mg X.base CX k f fd ps sp) (hr : Room k X.A) (hg : Gl X x) (hm : X.mg x = some (.ref f)) (hk : PySem.W.keepIn X.K (.ref f) = true)
    (hb : KB0 X.K fd ps ks ix) (hpm : ps.length = m) (hx : Passes CX X E) (hkw : PK X kws tk) (hall : (backToKw pos (keywordEach kws X.env)).all (·.1.isSome) = true := by rfl) (hks : (backToKw pos (keywordEach kws X.env)).filterMap (·.1) = ks := by rfl)
    (hdb : (x == ("__debug__" : Str)) = false := by decide) (hpl : ((backTo pos (starEach [] X.env)).any (·.1) || (backToKw pos (keywordEach kws X.env)).any (·.1.isNone)) = false := by rfl) :
    PE X (.Call (.Name x p) [] kws pos) (tCallK0 sp m ix E tk) := by
  refine ⟨fun pins s σ H Q I h => ?_⟩
  refine wpAny_Call_Name_kw (ld_glob I hg hm ?_ hdb)
  refine PySem.W.callWith_KW0 (h₀ := X.base) I.ok.mod.kin hk hall ?_ hpl
  refine thn (hkw.run pos pins s σ H _ I h) fun ws s2 ⟨zs, H2, I2, rz, hz, q2⟩ => ⟨I2.kIn, ?_⟩
  rw [hks]
  have hw : ws.length = ps.length := by rw [← Paired.length rz, hz, hpm]
  show wpAny _ _ (call (.ref f) [] (ks.zip ws)) _ _ _
  refine wpAny_call (codeAny_mono (F.run X.A X.stack s2 H2 ⟨[], ks.zip ws⟩ (pick ix ws) (pick ix zs) Q E hr I2.env0 (hb.to s2 ws I2.kIn hw) (pick_vals rz) q2) fun r s' hq => ?_)
  cases r with
  | error e => exact hx pins σ H2 s2 e s' I2 hq
  | ok fl =>
    cases fl with
    | ret u => exact I2.after hq
    | next => exact False.elim hq
    | brk => exact False.elim hq
    | cont => exact False.elim hq
abbrev DK (X : Cx) (B : Bs) (kws : List Keyword) (w : TDA) : Prop := PK X kws (tDA X.K B w)
theorem PK.imp {kws : List Keyword} {t t' : TA} (h : PK X kws t) (i : ∀ σ H Q, t' σ H Q → t σ H Q) : PK X kws t' := ⟨fun pos pins s σ H Q I q => h.run pos pins s σ H Q I (i _ _ _ q)⟩
theorem dk_nil : DK X B [] wNil := PK.imp pk_nil fun σ H Q ⟨G, ρ, n, τ, Q', e, hw, k⟩ => k _ _ _ [] _ _ hw rfl (by simpa using e)
theorem dk_cons {kws : List Keyword} {nm : Option Str} {kpos : Pos} (ha : DE X B e wa) (hr : DK X B kws ws) : DK X B (⟨nm, e, kpos⟩ :: kws) (wCons wa ws) :=
  PK.imp (pk_cons ha hr) fun σ H Q ⟨G, ρ, n, τ, Q', e, hw, k⟩ =>
    ⟨G, ρ, n, τ, _, e, hw, fun r ρ' n' v G' H' h1 e1 => ⟨G', ρ', n', τ ++ [(v, r)], _, e1, h1, fun rs ρ2 n2 vs G2 H2 h2 hl e2 => k _ _ _ (v :: vs) _ _ h2 (by rw [List.length_cons, List.length_cons, hl]) (by
      rw [List.zip_cons_cons, List.append_cons]; exact e2)⟩⟩
theorem pick_rep {K : PySem.W.Frag} {G : Gh} {H : Hp} {ix : List Nat} {vs : List V} {ds : List D} (h : RepL K G H vs ds) : RepL K G H (pick ix vs) (pick ix ds) := by
  unfold pick
  induction ix with
  | nil => exact .nil
  | cons i ix ih =>
    rw [List.filterMap_cons, List.filterMap_cons]
    cases e : vs[i]? with
    | none =>
      have : ds[i]? = none := by
        rw [List.getElem?_eq_none_iff] at e ⊢
        rw [← h.length]; exact e
      rw [this]; exact ih
    | some v =>
      obtain ⟨d, e2, r⟩ := h.getV e
      rw [e2]; exact .cons r ih
def wCallK (m : Nat) (c : Ctr) (ix : List Nat) (ws : TDA) : TD := fun ρ n Q => ws ρ n fun rs ρ1 n1 => rs.length = m ∧ c (pick ix (rs.map dOf)) n1 fun d n2 => Q (.val d) ρ1 n2
theorem de_callK {m : Nat} {c : Ctr} {ix : List Nat} {E : XK} (hix : ∀ l : List D, l.length = m → (pick ix l).length = m) (h : PE X e (tCallK0 (spC X.K m c) m ix E (tDA X.K B ws))) : DE X B e (wCallK m c ix ws) :=
  PE.imp h fun σ H Q ⟨G, ρ, n, τ, Q', e, hw, k⟩ => ⟨G, ρ, n, τ, _, e, hw, fun rs ρ1 n1 vs G1 H1 ⟨hm, h1⟩ hl e1 => by
    obtain ⟨G2, x2, e2, rl⟩ := EnvOk.freezeAll rs vs τ G1 hl e1
    obtain ⟨g0, x3⟩ := e2.out
    refine ⟨by rw [hl, hm], outG G2, pick ix (rs.map dOf), n1, _, g0, hix _ (by rw [List.length_map, hm]), pick_rep (rl.mono x3), h1, fun d n2 v G' H' h2 gr bg fh rv => ?_⟩
    obtain ⟨e3, x4⟩ := e2.back gr bg fh
    exact k _ _ _ _ _ _ h2 (e3.pushV (rv.mono x4))⟩
end
end Ly
namespace Ly
open PySem PySem.Spec PyProof.Rows L2
/-! ### an empty dict that stays so -/
def wDc0 : TD := fun ρ n Q => Q (.val .dc0) ρ n
theorem de_dc0 {X : Cx} {B : Bs} {e : Expr} (h : PE X e tDNewK) : DE X B e wDc0 := PE.imp h fun σ H Q ⟨G, ρ, n, τ, Q', e, hw, k⟩ => fun p hp =>
  k _ _ _ _ _ _ hw ((e.alloc hp (.dK []) .fro (by simp)).pushV (.dc0 updG_same upd_same))
/-! ### the call of a def that must not be called while something is being shown -/
section
variable {X : Cx} {B : Bs} {x : Str} {p pos : Pos} {e : Expr} {es : List Expr} {k : Nat} {f : Addr} {fd : FuncData} {ps : List Str} {sp : Sp} {t : TA} {ws : TDA}
theorem pe_callG (F : FnG X.prog X.w X.K X.mg X.base k f fd ps sp) (ga : X.A.guards = some []) (ln : ∀ vs H Q E, sp vs H Q E → vs.length = ps.length) (hr : Room k X.A) (hg : Gl X x) (hm : X.mg x = some (.ref f)) (hk : PySem.W.keepIn X.K (.ref f) = true) (hb : Binds X.K fd ps [])
    (ha : PA X (e :: es) t) (hdb : (x == ("__debug__" : Str)) = false := by decide) (he : starEach (e :: es) X.env = (false, eval e X.env) :: starEach es X.env := by rfl) (hpl : (backTo pos (starEach es X.env)).any (·.1) = false := by rfl) :
    PE X (.Call (.Name x p) (e :: es) [] pos) (tCall sp [] (fun _ _ _ => False) t) := by
  refine ⟨fun pins s σ H Q I h => ?_⟩
  refine wpAny_Call_Name_kw (ld_glob I hg hm ?_ hdb)
  refine PySem.W.callWith_K (h₀ := X.base) I.ok.mod.kin hk (thn (ha.run pos pins s σ H _ I h) fun us s1 ⟨vs, H1, I1, r, q⟩ => ⟨I1.kIn, ?_⟩) he hpl
  show wpAny _ _ (call (.ref f) us) _ _ _
  have q : sp (vs ++ []) H1 Q (fun _ _ _ => False) := q
  rw [List.append_nil] at q
  have hl : us.length = ps.length := by rw [← r.length]; exact ln _ _ _ _ q
  have b := hb s1 us I1.kIn (by rw [List.append_nil]; exact hl)
  rw [List.append_nil] at b
  refine wpAny_call (codeAny_mono (F.go X.A X.stack s1 H1 ⟨us, []⟩ us vs Q (fun _ _ _ => False) ga hr I1.env0 b r q) fun r s' hq => ?_)
  cases r with
  | error e => exact pass0 pins σ H1 s1 e s' I1 hq
  | ok fl =>
    cases fl with
    | ret u => exact I1.after hq
    | next => exact False.elim hq
    | brk => exact False.elim hq
    | cont => exact False.elim hq
theorem spC_len {K : PySem.W.Frag} {m : Nat} {c : Ctr} (hm : ps.length = m) : ∀ vs H Q E, spC K m c vs H Q E → vs.length = ps.length := fun vs H Q E ⟨G, ds, n, Q', g, hl, rl, _⟩ => by rw [rl.length, hl, hm]
end
/-! ### tuples of texts that the top holds -/
theorem vals_strs : ∀ {ss : List Str} {ts : List Tok} , ss.length = ts.length → Vals (ss.map V.str) (List.zipWith Value.str ss ts)
  | [], [], _ => .nil
  | _ :: _, t :: _, h => .cons ⟨t, rfl⟩ (vals_strs (by simpa using h))
theorem gtup_of {K : PySem.W.Frag} {h : Heap} {mg : Str → Option Value} {x : Str} {ss : List Str} {q : Addr} {od : Option Addr} {its : Array Value} {n : Nat} {sl : Array (Option Value)} (kin : K.In h) (G : h.Ns mainGlobals mg) (at_ : PySem.W.nsIn K mainGlobals x = some (some (.ref q)))
    (lk : K.lookup q = some ⟨.type "tuple", od, .seq its n, sl⟩) (hv : Vals (ss.map V.str) its.toList) (hz : its.size ≤ sizeLine) (ok : SeqAt.shaped (.list (ss.map PyData.str)) = true) : GTup K mg x ss := by
  refine ⟨⟨q, PySem.W.mg_of kin G at_, fun H => .tup (.inr ⟨_, its, n, lk, rfl, rfl, hz, hv⟩) ?_⟩, ok⟩
  clear hv ok
  induction ss with
  | nil => exact .nil
  | cons s ss ih => exact .cons (.str s) ih
end Ly
namespace Ly
open PySem PySem.Spec PyProof.Rows L2
theorem hu65_of {k : Nat} {A : Around} (hr : Room k A) : A.units + 65 < cLine := by have := hr.un; omega
theorem hu2_of {k : Nat} {A : Around} (hr : Room k A) : A.units + 2 < cLine := by have := hr.un; omega
end Ly
namespace Ly
open PySem PySem.Spec PyProof.Rows L2
/-! ### what can be sorted, as a check -/
def tupB : PyData → Bool
  | .tuple _ => true
  | _ => false
def tupNB : PyData → Bool
  | .tuple (_ :: _) => true
  | _ => false
def tupEB : PyData → Bool
  | .tuple [] => true
  | _ => false
def flatB : PyData → Bool
  | .none => false
  | .tuple _ => false
  | _ => true
def srtB (l : List D) : Bool := match toPys l with
  | some ps => (ps.all fun p => ps.all fun q => PySem.W.alike p q) && (ps.all tupNB || ps.all flatB || (ps.all tupB && ps.any tupEB && (match ps with | p :: _ => tupNB p | [] => false))) && ps.all fun p => decide (p.depth ≤ 60)
  | none => false
theorem srt_of {l : List D} (h : srtB l = true) : ∃ ps, toPys l = some ps ∧ PySem.W.AllAlike ps ∧ (PySem.W.Sortable ps ∨ PySem.W.SortableM ps) ∧ ∀ p ∈ ps, p.depth ≤ 60 := by
  unfold srtB at h
  split at h
  · rename_i ps e
    simp only [Bool.and_eq_true, Bool.or_eq_true, List.all_eq_true, List.any_eq_true, decide_eq_true_eq] at h
    obtain ⟨⟨h1, h2⟩, h3⟩ := h
    refine ⟨ps, e, fun d hd d' hd' => h1 d hd d' hd', ?_, h3⟩
    rcases h2 with (h2 | h2) | ⟨⟨h2, h4⟩, h5⟩
    · refine .inl (.inl fun d hd => ?_)
      have := h2 d hd
      unfold tupNB at this
      split at this
      · exact ⟨_, _, rfl⟩
      · cases this
    · refine .inl (.inr fun d hd => ?_)
      have := h2 d hd
      unfold flatB at this
      split at this
      · cases this
      · cases this
      · rename_i a b
        exact ⟨a, b⟩
    · refine .inr ⟨fun d hd => ?_, ?_, ?_⟩
      · have := h2 d hd
        unfold tupB at this
        split at this
        · exact ⟨_, rfl⟩
        · cases this
      · obtain ⟨d, hd, z⟩ := h4
        unfold tupEB at z
        split at z
        · exact hd
        · cases z
      · cases ps with
        | nil => cases h5
        | cons p r =>
          have h5 : tupNB p = true := h5
          unfold tupNB at h5
          split at h5
          · exact ⟨_, _, _, rfl⟩
          · cases h5
  · cases h
theorem sortD_eq {l : List D} (h : l.Pairwise (fun x y => leD x y = true)) : sortD l = l := List.mergeSort_of_pairwise h
/-- a sorted list of the same items is the sorted list -/
theorem sortD_of {l s : List D} (hp : s.Perm l) (hs : s.Pairwise (fun x y => leD x y = true)) (ha : ∀ x ∈ s, ∀ y ∈ s, leD x y = true → leD y x = true → x = y) : sortD l = s := by
  have tl := PySem.W.sortLe_total (listOrd itemOrd) false keyOfD
  have h1 : (sortD l).Pairwise (fun x y => leD x y = true) := by
    unfold sortD
    refine List.pairwise_mergeSort (le := leD) (fun a b c => tl.trans a b c) (fun a b => ?_) l
    rcases tl.total a b with z | z
    · exact Bool.or_eq_true _ _ ▸ .inl z
    · exact Bool.or_eq_true _ _ ▸ .inr z
  have h2 : (sortD l).Perm s := (List.mergeSort_perm l leD).trans hp.symm
  exact List.Perm.eq_of_pairwise (fun a b ha' hb' => ha a (h2.mem_iff.mp ha') b hb') h1 hs h2
theorem gSorted_of {r : RV} {l s : List D} {R : RV → Prop} (hl : listOf r = some l) (h : srtB l = true) (hs : sortD l = s) (q : R (.new s)) : gSorted [r] R := by
  obtain ⟨ps, h1, h2, h3, h4⟩ := srt_of h
  exact ⟨r, l, ps, rfl, hl, h1, h2, h3, h4, by rw [hs]; exact q⟩
end Ly

namespace Ly
open PySem PySem.Spec PyProof.Rows L2
theorem dp_ints {K : PySem.W.Frag} {H : Hp} : ∀ ns : List Int, DpAll K H (ns.map V.int) (ns.map PyData.int)
  | [] => .nil
  | _ :: r => .cons (.int _) (dp_ints r)
theorem lay_ints : ∀ ns : List Int, PyData.canLayAll0 (ns.map PyData.int) = true
  | [] => rfl
  | _ :: r => by simp only [List.map_cons, PyData.canLayAll0, PyData.canLay0, lay_ints r]; rfl
theorem dep_ints : ∀ ns : List Int, PyData.depthAll (ns.map PyData.int) = 0
  | [] => rfl
  | _ :: r => by simp only [List.map_cons, PyData.depthAll, PyData.depth, dep_ints r]; rfl
theorem shaped_ints (ns : List Int) : SeqAt.shaped (.list (ns.map PyData.int)) = true := by
  unfold SeqAt.shaped
  simp only [PyData.canLay0, PyData.depth, lay_ints, dep_ints]
  rfl
theorem eqv_nil (ns : List Int) : PyData.eqv (.list (ns.map PyData.int)) (.list []) = ns.isEmpty := by
  cases ns <;> simp [PyData.eqv, PyData.eqvAll]
theorem v_far {x y z : V} : valV [(kFar, x), (kStir, y), (kTurn, z)] kFar = some x := rfl
theorem v_stir {x y z : V} : valV [(kFar, x), (kStir, y), (kTurn, z)] kStir = some y := rfl
theorem v_turn {x y z : V} : valV [(kFar, x), (kStir, y), (kTurn, z)] kTurn = some z := rfl
theorem p_turn {x y z v : V} : putK [(kFar, x), (kStir, y), (kTurn, z)] kTurn v = [(kFar, x), (kStir, y), (kTurn, v)] := rfl
theorem p_stir {x y z v : V} : putK [(kFar, x), (kStir, y), (kTurn, z)] kStir v = [(kFar, x), (kStir, v), (kTurn, z)] := rfl
/-- behind a draw -/
theorem draw_fin {G : Gh} {H H' : Hp} {n : Nat} {a b : Addr} {far : List Int} {sr t : Int} {o1 : List Int} {kv : List (Key × V)} (g : G0Ok G H n) (ga : G a = .bagd b) (gb : G b = .bagl a)
    (ha0 : H a = some (.dK kv)) (hb0 : H b = some (.lst (o1.map V.int)))
    (keep : ∀ c o, H c = some o → c ≠ a → c ≠ b → H' c = some o) (ha : H' a = some (.dK [(kFar, .ref b), (kStir, .int sr), (kTurn, .int t)])) (hb : H' b = some (.lst (far.map V.int)))
    (hf : far.length ≤ 63) (h0 : 0 ≤ sr) (h1 : sr < 4294967291) (h2 : 0 ≤ t) (h3 : t ≤ n + 1) (nn : ∀ c, H' c = none → H c = none) :
    Gr G H G H' ∧ (∀ c d, G c = .bagd d → BagOk G H' (n + 1) c d) ∧ ∀ c, H' c = none → G c = .free := by
  refine ⟨⟨fun c o q q1 q2 => ⟨keep c o q (fun z => q1 b (z ▸ ga)) (fun z => q2 a (z ▸ gb)), rfl⟩, fun _ _ q => q, fun _ _ q => q, fun c xs q => keep c _ q (ne_of q ha0 (by simp)) (ne_of q hb0 (by simp)), fun c o u q => keep c _ q (ne_of q ha0 (by simp)) (ne_of q hb0 (by simp))⟩, fun c d q => ?_, fun c q => g.fh c (nn c q)⟩
  by_cases hc : c = a
  · subst hc
    rw [ga] at q
    cases q
    exact ⟨gb, far, sr, t, ha, hb, hf, h0, h1, h2, by omega⟩
  · obtain ⟨gd, far', s', t', hcc, hdd, z1, z2, z3, z4, z5⟩ := g.bg c d q
    have hcb : c ≠ b := fun z => by subst z; rw [gb] at q; cases q
    have hda : d ≠ a := fun z => by subst z; rw [ga] at gd; cases gd
    have hdb : d ≠ b := fun z => by subst z; rw [gb] at gd; cases gd; exact hc rfl
    exact ⟨gd, far', s', t', keep c _ hcc hc hcb, keep d _ hdd hda hdb, z1, z2, z3, z4, by omega⟩
end Ly

namespace Ly.K12
open PySem PySem.Spec PyProof.Rows L2
/-! ### books, deeds -/
def W5 : List Str := ["put left", "put right", "slide", "take left", "take right"]
def puts : List Str := ["put left", "put right", "slide"]
def takes : List Str := ["slide", "take left", "take right"]
def bookD (b : List Str) : D := .tup (b.map .str)
def theBooks : List (List Str) := [[], ["put left"], ["put left", "put right"], ["put left", "put right", "take left"], ["put left", "put right", "take left", "take right"], ["put left", "put right", "take right"], ["put left", "take left"], ["put left", "take left", "take right"], ["put left", "take right"],
  ["put right"], ["put right", "take left"], ["put right", "take left", "take right"], ["put right", "take right"], ["slide"], ["take left"], ["take left", "take right"], ["take right"]]
def deed1 (m : Nat) (w : Str) : List D := if w ∈ puts then (List.range m).map fun (k : Nat) => .tup [.str w, .int (k : Int)] else [.tup [.str w]]
def deedsL (b : List Str) (m : Nat) : List D := b.flatMap (deed1 m)
def firstW : D → Str
  | .tup (.str w :: _) => w
  | _ => ""
def openL (b : List Str) (m : Nat) (r : List Int) : List D := (deedsL b m).filter fun d => !r.isEmpty || decide (firstW d ∈ (["put left", "put right"] : List Str))
def rightLen (w : Str) (l : List D) : Bool := decide (l.length = if w ∈ puts then 1 else 0)
def letterOk (w : Str) (l : List D) (m : Int) : Bool := !decide (w ∈ puts) || (match l with | v :: _ => whole v 0 (m - 1) | [] => false)
/-- what is wrong with a value that ought to be a deed -/
def derr (b : List Str) (m : Int) (r : List Int) : D → D
  | .tup (.str w :: l) => if w ∈ W5 ∧ rightLen w l = true then (if letterOk w l m = false then .str "letter" else if w ∉ b then .str "book" else if w ∈ takes ∧ r = [] then .str "empty" else .non) else .str "form"
  | _ => .str "form"
/-- values that are handed in as deeds -/
structure Vd (v : D) : Prop where
  sh : ShR 3 300 v
  it : ∀ l, v = .tup l → l.length ≤ 10 ∧ ∀ d ∈ l, Pl d ∧ ∃ p, toPy d = some p ∧ SeqAt.shaped p = true
  ty : ∃ T, isiB v "tuple" = some T
def c_law_pot : Ctr := c_law_bag
def c_law_letters : Ctr := fun ds n Q => ∃ a, ∃ m k : Nat, ds = [.bag a, .int m, .int k] ∧ 1 ≤ m ∧ m ≤ 3 ∧ k ≤ 240 ∧ ret n 240 (fun d => ∃ r : List Int, d = rowD r ∧ r.length = k ∧ ∀ x ∈ r, 0 ≤ x ∧ x < (m : Int)) Q
def c_law_row : Ctr := fun ds n Q => ∃ a, ∃ m l : Nat, ds = [.bag a, .int m, .int l] ∧ 1 ≤ m ∧ m ≤ 3 ∧ l ≤ 40 ∧ ret n 250 (fun d => ∃ r : List Int, d = rowD r ∧ r.length ≤ 40 ∧ ∀ x ∈ r, 0 ≤ x ∧ x < (m : Int)) Q
def c_law_words : Ctr := fun ds n Q => ds = [] ∧ Q (.tup [.str "put left", .str "put right", .str "take left", .str "take right"]) n
def c_law_books : Ctr := fun ds n Q => ds = [] ∧ Q (.lst (theBooks.map bookD)) n
def c_deeds_of : Ctr := fun ds n Q => ∃ b, ∃ m : Nat, ds = [bookD b, .int m] ∧ b ∈ theBooks ∧ 1 ≤ m ∧ m ≤ 3 ∧ Q (.tup (deedsL b m)) n
def c_law_deeds : Ctr := fun ds n Q => ∃ b, ∃ m : Nat, ds = [bookD b, .int m] ∧ b ∈ theBooks ∧ 1 ≤ m ∧ m ≤ 3 ∧ Q (.lst (deedsL b m)) n
def c_law_open : Ctr := fun ds n Q => ∃ b, ∃ m : Nat, ∃ r, ds = [bookD b, .int m, rowD r] ∧ b ∈ theBooks ∧ 1 ≤ m ∧ m ≤ 3 ∧ Q (.lst (openL b m r)) n
def c_open_deeds : Ctr := fun ds n Q => ∃ b, ∃ m : Nat, ∃ r, ds = [bookD b, .int m, rowD r] ∧ b ∈ theBooks ∧ 1 ≤ m ∧ m ≤ 3 ∧ Q (.tup (openL b m r)) n
def c_law_is_whole : Ctr := c_is_whole
def c_is_built_as_deed : Ctr := fun ds n Q => ∃ v, ds = [v] ∧ Vd v ∧ Q (.bl (match v with | .tup (.str w :: l) => decide (w ∈ W5) && rightLen w l | _ => false)) n
def c_deed_error : Ctr := fun ds n Q => ∃ b, ∃ m : Int, ∃ r v, ds = [bookD b, .int m, rowD r, v] ∧ b ∈ theBooks ∧ Vd v ∧ Q (derr b m r v) n
def c_law_deed_fault : Ctr := fun ds n Q => ∃ b, ∃ m : Int, ∃ r v, ds = [bookD b, .int m, rowD r, v] ∧ b ∈ theBooks ∧ r.length ≤ 1000 ∧ Vd v ∧ Q (derr b m r v) n
def c_law_odd_deeds : Ctr := fun ds n Q => ∃ a, ∃ m : Nat, ds = [.bag a, .int m] ∧ 1 ≤ m ∧ m ≤ 3 ∧ ret n 5 (fun d => ∃ l, d = .lst l ∧ l.length = 3 ∧ ∀ v ∈ l, Vd v) Q
def c_law_start : Ctr := fun ds n Q => ∃ a b, ∃ m : Nat, ds = [.bag a, bookD b, .int m] ∧ b ∈ theBooks ∧ 1 ≤ m ∧ m ≤ 3 ∧ ret n 260 (fun d => ∃ r : List Int, d = rowD r ∧ r.length ≤ 240 ∧ ∀ x ∈ r, 0 ≤ x ∧ x < (m : Int)) Q
def c_law_is_told : Ctr := fun ds n Q => ∃ b, ∃ m : Nat, ∃ r v, ds = [bookD b, .int m, rowD r, v] ∧ b ∈ theBooks ∧ r.length ≤ 240 ∧ (∀ x ∈ r, 0 ≤ x ∧ x < 10) ∧ Vd v ∧ Q (.bl true) n
def gt_WORDS : List Str := ["put left", "put right", "slide", "take left", "take right"]
def gt_PUTTING : List Str := ["put left", "put right", "slide"]
def gt_TAKING : List Str := ["slide", "take left", "take right"]
def wb_deeds_of_1 : TDS := (wIfS (wTst (wInG false gt_PUTTING (wV 3))) (wDrop (wExt 2 (wLc (wiR1 (wCons (wV 1) wNil)) (wgN 4) wYes (wTup (wCons (wV 3) (wCons (wV 4) wNil))) [4]))) (wDrop (wApp 2 (wTup (wCons (wV 3) wNil)))))
def wb_deeds_of_2 : TDS := (wSeq (wFor (wiSeq (wV 0)) (wgN 3) wb_deeds_of_1) (wRet (wCB gTuple (wCons (wV 2) wNil))))
def wb_deeds_of : TDS := (wSeq (wSet 2 (wLst wNil)) wb_deeds_of_2)
def wb_deed_error_1 : TDS := (wSeq (wIfS (wTAnd (wTst (wInG false gt_TAKING (wV 4))) (wTst (wOp (gEq false) (wLenN 2) (wC (.int 0))))) (wRet (wC (.str ("empty" : Str)))) wSkip) (wRet (wC .non)))
def wb_deed_error_2 : TDS := (wSeq (wIfS (wTst (wOp (gIn true) (wV 4) (wV 0))) (wRet (wC (.str ("book" : Str)))) wSkip) wb_deed_error_1)
def wb_deed_error_3 : TDS := (wSeq (wIfS (wTAnd (wTst (wInG false gt_PUTTING (wV 4))) (wTNot (wTst (wCall 3 c_is_whole (wCons (wIxN 3 (wC (.int 1))) (wCons (wC (.int 0)) (wCons (wOp gMinus (wV 1) (wC (.int 1))) wNil))))))) (wRet (wC (.str ("letter" : Str)))) wSkip) wb_deed_error_2)
def wb_deed_error_4 : TDS := (wSeq (wSet 4 (wIxN 3 (wC (.int 0)))) wb_deed_error_3)
def wb_deed_error : TDS := (wSeq (wIfS (wTNot (wTst (wCall 1 c_is_built_as_deed (wCons (wV 3) wNil)))) (wRet (wC (.str ("form" : Str)))) wSkip) wb_deed_error_4)
def wb_is_built_as_deed_1 : TDS := (wRet (wOp (gEq false) (wLenN 0) (wIf (wTst (wInG false gt_PUTTING (wIxN 0 (wC (.int 0))))) (wC (.int 2)) (wC (.int 1)))))
def wb_is_built_as_deed : TDS := (wSeq (wIfS (wTOr (wTNot (wTst (wCB gIsi (wCons (wV 0) (wCons (wC (.ty "tuple")) wNil))))) (wTOr (wTst (wOp (gEq false) (wLenN 0) (wC (.int 0)))) (wTst (wInG true gt_WORDS (wIxN 0 (wC (.int 0))))))) (wRet (wC (.bl false))) wSkip) wb_is_built_as_deed_1)
def wb_open_deeds : TDS := (wRet (wCB gTuple (wCons (wLc (wiSeq (wCall 2 c_deeds_of (wCons (wV 0) (wCons (wV 1) wNil)))) (wgN 3) (wTst (wOp (gIsN false) (wCall 4 c_deed_error (wCons (wV 0) (wCons (wV 1) (wCons (wV 2) (wCons (wV 3) wNil))))) (wC .non))) (wV 3) [3]) wNil)))
def wb_law_letters : TDS := (wRet (wCB gTuple (wCons (wLc (wiR1 (wCons (wV 2) wNil)) (wgN 3) wYes (wCall 2 c_law_draw (wCons (wV 0) (wCons (wV 1) wNil))) [3]) wNil)))
def wb_law_row : TDS := (wRet (wCall 3 c_law_letters (wCons (wV 0) (wCons (wV 1) (wCons (wCall 2 c_law_draw (wCons (wV 0) (wCons (wOp gAdd (wV 2) (wC (.int 1))) wNil))) wNil)))))
def wb_law_words : TDS := (wRet (wTup (wCons (wC (.str ("put left" : Str))) (wCons (wC (.str ("put right" : Str))) (wCons (wC (.str ("take left" : Str))) (wCons (wC (.str ("take right" : Str))) wNil))))))
def wb_law_books_1 : TDS := (wDrop (wApp 0 (wCB gTuple (wCons (wLc (wiEn (wCons (wCall0 c_law_words) wNil)) (wgTup 2 (wgCons (wgN 2) (wgCons (wgN 3) wgNil))) (wTst (wOp (gEq false) (wOp gMod (wOp gDiv (wV 1) (wIx (wLst (wCons (wC (.int 1)) (wCons (wC (.int 2)) (wCons (wC (.int 4)) (wCons (wC (.int 8)) wNil))))) (wV 2))) (wC (.int 2))) (wC (.int 1)))) (wV 3) [2, 3]) wNil))))
def wb_law_books_2 : TDS := (wRet (wCB gSorted (wCons (wV 0) wNil)))
def wb_law_books_3 : TDS := (wSeq (wFor (wiR1 (wCons (wC (.int 16)) wNil)) (wgN 1) wb_law_books_1) wb_law_books_2)
def wb_law_books : TDS := (wSeq (wSet 0 (wLst (wCons (wTup (wCons (wC (.str ("slide" : Str))) wNil)) wNil))) wb_law_books_3)
def wb_law_deeds_1 : TDS := (wIfS (wTst (wOp (gIn false) (wV 3) (wTup (wCons (wC (.str ("take left" : Str))) (wCons (wC (.str ("take right" : Str))) wNil))))) (wDrop (wApp 2 (wTup (wCons (wV 3) wNil)))) (wDrop (wExt 2 (wLc (wiR1 (wCons (wV 1) wNil)) (wgN 4) wYes (wTup (wCons (wV 3) (wCons (wV 4) wNil))) [4]))))
def wb_law_deeds_2 : TDS := (wRet (wCB gSorted (wCons (wV 2) wNil)))
def wb_law_deeds_3 : TDS := (wSeq (wFor (wiSeq (wV 0)) (wgN 3) wb_law_deeds_1) wb_law_deeds_2)
def wb_law_deeds : TDS := (wSeq (wSet 2 (wLst wNil)) wb_law_deeds_3)
def wb_law_open : TDS := (wRet (wLc (wiSeq (wCall 2 c_law_deeds (wCons (wV 0) (wCons (wV 1) wNil)))) (wgN 3) (wTOr (wTst (wOp (gEq true) (wV 2) (wTup wNil))) (wTst (wOp (gIn false) (wIxN 3 (wC (.int 0))) (wTup (wCons (wC (.str ("put left" : Str))) (wCons (wC (.str ("put right" : Str))) wNil)))))) (wV 3) [3]))
def wb_law_is_whole : TDS := (wRet (wAndV (wCB gIsi (wCons (wV 0) (wCons (wC (.ty "int")) wNil))) (wAndV (wNotV (wCB gIsi (wCons (wV 0) (wCons (wC (.ty "bool")) wNil)))) (wChain gLe gLe (wV 1) (wV 0) (wV 2)))))
def wb_law_deed_fault_1 : TDS := (wRet (wIf (wTAnd (wTst (wOp (gEq false) (wV 2) (wTup wNil))) (wTst (wOp (gIn true) (wIxN 3 (wC (.int 0))) (wTup (wCons (wC (.str ("put left" : Str))) (wCons (wC (.str ("put right" : Str))) wNil)))))) (wC (.str ("empty" : Str))) (wC .non)))
def wb_law_deed_fault_2 : TDS := (wSeq (wIfS (wTst (wOp (gIn true) (wIxN 3 (wC (.int 0))) (wV 0))) (wRet (wC (.str ("book" : Str)))) wSkip) wb_law_deed_fault_1)
def wb_law_deed_fault_3 : TDS := (wSeq (wIfS (wTAnd (wTst (wOp (gEq false) (wLenN 3) (wC (.int 2)))) (wTNot (wTst (wCall 3 c_law_is_whole (wCons (wIxN 3 (wC (.int 1))) (wCons (wC (.int 0)) (wCons (wOp gMinus (wV 1) (wC (.int 1))) wNil))))))) (wRet (wC (.str ("letter" : Str)))) wSkip) wb_law_deed_fault_2)
def wb_law_deed_fault_4 : TDS := (wSeq (wIfS (wTst (wOp (gEq true) (wLenN 3) (wIf (wTst (wOp (gIn false) (wIxN 3 (wC (.int 0))) (wTup (wCons (wC (.str ("take left" : Str))) (wCons (wC (.str ("take right" : Str))) wNil))))) (wC (.int 1)) (wC (.int 2))))) (wRet (wC (.str ("form" : Str)))) wSkip) wb_law_deed_fault_3)
def wb_law_deed_fault_5 : TDS := (wSeq (wIfS (wTst (wOp (gIn true) (wIxN 3 (wC (.int 0))) (wOp gAdd (wCall0 c_law_words) (wTup (wCons (wC (.str ("slide" : Str))) wNil))))) (wRet (wC (.str ("form" : Str)))) wSkip) wb_law_deed_fault_4)
def wb_law_deed_fault : TDS := (wSeq (wIfS (wTOr (wTNot (wTst (wCB gIsi (wCons (wV 3) (wCons (wC (.ty "tuple")) wNil))))) (wTOr (wTst (wOp (gIn true) (wLenN 3) (wTup (wCons (wC (.int 1)) (wCons (wC (.int 2)) wNil))))) (wTNot (wTst (wCB gIsi (wCons (wIxN 3 (wC (.int 0))) (wCons (wC (.ty "str")) wNil))))))) (wRet (wC (.str ("form" : Str)))) wSkip) wb_law_deed_fault_5)
def wb_law_odd_deeds_1 : TDS := (wRet (wLst (wCons (wCall 2 c_law_pick (wCons (wV 0) (wCons (wV 2) wNil))) (wCons (wCall 2 c_law_pick (wCons (wV 0) (wCons (wV 3) wNil))) (wCons (wCall 2 c_law_pick (wCons (wV 0) (wCons (wV 3) wNil))) wNil)))))
def wb_law_odd_deeds_2 : TDS := (wSeq (wSet 3 (wOp gAdd (wV 3) (wLst (wCons (wTup (wCons (wC (.str ("take left" : Str))) (wCons (wV 4) wNil))) (wCons (wTup (wCons (wC (.str ("put left" : Str))) wNil)) (wCons (wTup (wCons (wC (.str ("slide" : Str))) wNil)) wNil)))))) wb_law_odd_deeds_1)
def wb_law_odd_deeds_3 : TDS := (wSeq (wSet 3 (wLst (wCons (wTup (wCons (wC (.str ("take left" : Str))) wNil)) (wCons (wTup (wCons (wC (.str ("take right" : Str))) wNil)) (wCons (wTup (wCons (wC (.str ("put left" : Str))) (wCons (wV 4) wNil))) (wCons (wTup (wCons (wC (.str ("put right" : Str))) (wCons (wV 4) wNil))) (wCons (wTup (wCons (wC (.str ("slide" : Str))) (wCons (wV 4) wNil))) wNil))))))) wb_law_odd_deeds_2)
def wb_law_odd_deeds_4 : TDS := (wSeq (wSet 2 (wOp gAdd (wV 2) (wLst (wCons (wTup (wCons (wOp gAdd (wOp gAdd (wV 5) (wC (.str (" " : Str)))) (wCB gStrI (wCons (wV 4) wNil))) wNil)) wNil)))) wb_law_odd_deeds_3)
def wb_law_odd_deeds_5 : TDS := (wSeq (wSet 2 (wOp gAdd (wV 2) (wLst (wCons (wTup (wCons (wV 5) (wCons (wCB gStrI (wCons (wV 4) wNil)) wNil))) (wCons (wTup (wCons (wC (.str ("Take left" : Str))) wNil)) (wCons (wTup (wCons (wC (.str ("take left " : Str))) wNil)) (wCons (wTup (wCons (wC .non) wNil)) (wCons wDc0 (wCons (wC (.int 0)) (wCons (wTup (wCons (wC (.bl true)) (wCons (wV 4) wNil))) (wCons (wTup (wCons (wLst (wCons (wV 5) wNil)) wNil)) wNil))))))))))) wb_law_odd_deeds_4)
def wb_law_odd_deeds_6 : TDS := (wSeq (wSet 2 (wOp gAdd (wV 2) (wLst (wCons (wC (.str ("take left" : Str))) (wCons (wTup (wCons (wC (.str ("put" : Str))) (wCons (wV 4) wNil))) (wCons (wTup (wCons (wV 4) (wCons (wV 5) wNil))) (wCons (wTup (wCons (wTup (wCons (wV 5) wNil)) (wCons (wV 4) wNil))) (wCons (wTup (wCons (wV 5) (wCons (wTup (wCons (wV 4) wNil)) wNil))) wNil)))))))) wb_law_odd_deeds_5)
def wb_law_odd_deeds_7 : TDS := (wSeq (wSet 2 (wLst (wCons (wC .non) (wCons (wTup wNil) (wCons (wLst (wCons (wV 5) (wCons (wV 4) wNil))) (wCons (wTup (wCons (wV 5) (wCons (wV 4) (wCons (wV 4) wNil)))) (wCons (wTup (wCons (wV 5) (wCons (wV 1) wNil))) (wCons (wTup (wCons (wV 5) (wCons (wC (.bl true)) wNil))) (wCons (wTup (wCons (wV 5) (wCons (wNeg (wC (.int 1))) wNil))) (wCons (wTup (wCons (wV 5) (wCons (wC .non) wNil))) wNil)))))))))) wb_law_odd_deeds_6)
def wb_law_odd_deeds : TDS := (wSeq (wPar2 4 5 (wCons (wCall 2 c_law_draw (wCons (wV 0) (wCons (wV 1) wNil))) (wCons (wCall 2 c_law_pick (wCons (wV 0) (wCons (wOp gAdd (wCB gList (wCons (wCall0 c_law_words) wNil)) (wLst (wCons (wC (.str ("slide" : Str))) wNil))) wNil))) wNil))) wb_law_odd_deeds_7)
def wb_law_start_1 : TDS := (wRet (wCall 3 c_law_row (wCons (wV 0) (wCons (wV 2) (wCons (wCall 2 c_law_pick (wCons (wV 0) (wCons (wLst (wCons (wC (.int 1)) (wCons (wC (.int 3)) (wCons (wC (.int 40)) wNil)))) wNil))) wNil)))))
def wb_law_start_2 : TDS := (wSeq (wIfS (wTAnd (wTst (wOp (gEq false) (wV 3) (wC (.int 3)))) (wTOr (wTst (wOp (gIn false) (wC (.str ("put left" : Str))) (wV 1))) (wTst (wOp (gIn false) (wC (.str ("put right" : Str))) (wV 1))))) (wRet (wCall 3 c_law_letters (wCons (wV 0) (wCons (wV 2) (wCons (wCall 2 c_law_pick (wCons (wV 0) (wCons (wLst (wCons (wC (.int 41)) (wCons (wC (.int 200)) (wCons (wC (.int 239)) (wCons (wC (.int 240)) wNil))))) wNil))) wNil))))) wSkip) wb_law_start_1)
def wb_law_start_3 : TDS := (wSeq (wIfS (wTst (wOp gLt (wV 3) (wC (.int 3)))) (wRet (wTup wNil)) wSkip) wb_law_start_2)
def wb_law_start : TDS := (wSeq (wSet 3 (wCall 2 c_law_draw (wCons (wV 0) (wCons (wC (.int 8)) wNil)))) wb_law_start_3)
def wb_law_is_told_1 : TDS := (wRet (wAndV (wOp (gEq false) (wCB gReprR (wCons (wV 5) wNil)) (wCB gReprR (wCons (wOp gRepL (wLst (wCons (wCall 4 c_law_deed_fault (wCons (wV 0) (wCons (wV 1) (wCons (wV 2) (wCons (wV 3) wNil))))) wNil)) (wC (.int 2))) wNil))) (wOp (gEq false) (wCB gReprR (wCons (wLst (wCons (wV 0) (wCons (wV 2) (wCons (wV 3) wNil)))) wNil)) (wV 4))))
def wb_law_is_told_2 : TDS := (wSeq (wSet 5 (wLst (wCons (wCall 4 c_deed_error (wCons (wV 0) (wCons (wV 1) (wCons (wV 2) (wCons (wV 3) wNil))))) (wCons (wCallK 4 c_deed_error [2, 3, 1, 0] (wCons (wV 3) (wCons (wV 2) (wCons (wV 0) (wCons (wV 1) wNil))))) wNil)))) wb_law_is_told_1)
def wb_law_is_told : TDS := (wSeq (wSet 4 (wCB gReprR (wCons (wLst (wCons (wV 0) (wCons (wV 2) (wCons (wV 3) wNil)))) wNil))) wb_law_is_told_2)
def wb_law_1 : TDS := (wIfS (wTNot (wTst (wCall 4 c_law_is_told (wCons (wV 5) (wCons (wV 6) (wCons (wV 3) (wCons (wV 4) wNil))))))) (wRet (wC (.bl false))) wSkip)
def wb_law_2 : TDS := (wFor (wiSeq (wOp gAdd (wOp gAdd (wCall 2 c_law_odd_deeds (wCons (wV 1) (wCons (wV 6) wNil))) (wCall 2 c_law_odd_deeds (wCons (wV 1) (wCons (wC (.int 3)) wNil)))) (wCB gList (wCons (wV 7) wNil)))) (wgN 4) wb_law_1)
def wb_law_3 : TDS := (wSeq (wIfS (wTst (wOp (gEq true) (wCB gReprR (wCons (wLst (wCons (wCall 3 c_open_deeds (wCons (wV 5) (wCons (wV 6) (wCons (wV 3) wNil)))) (wCons (wCallK 3 c_open_deeds [2, 1, 0] (wCons (wV 3) (wCons (wV 6) (wCons (wV 5) wNil)))) wNil))) wNil)) (wCB gReprR (wCons (wOp gRepL (wLst (wCons (wV 8) wNil)) (wC (.int 2))) wNil)))) (wRet (wC (.bl false))) wSkip) wb_law_2)
def wb_law_4 : TDS := (wSeq (wIfS (wTst (wOp (gEq true) (wCB gReprR (wCons (wLst (wCons (wCall 2 c_deeds_of (wCons (wV 5) (wCons (wV 6) wNil))) (wCons (wCallK 2 c_deeds_of [1, 0] (wCons (wV 6) (wCons (wV 5) wNil))) wNil))) wNil)) (wCB gReprR (wCons (wOp gRepL (wLst (wCons (wV 7) wNil)) (wC (.int 2))) wNil)))) (wRet (wC (.bl false))) wSkip) wb_law_3)
def wb_law_5 : TDS := (wSeq (wPar2 7 8 (wCons (wCB gTuple (wCons (wCall 2 c_law_deeds (wCons (wV 5) (wCons (wV 6) wNil))) wNil)) (wCons (wCB gTuple (wCons (wCall 3 c_law_open (wCons (wV 5) (wCons (wV 6) (wCons (wV 3) wNil)))) wNil)) wNil))) wb_law_4)
def wb_law_6 : TDS := (wSeq (wSet 3 (wCall 3 c_law_start (wCons (wV 1) (wCons (wV 5) (wCons (wV 6) wNil))))) wb_law_5)
def wb_law_7 : TDS := (wSeq (wPar2 5 6 (wCons (wCall 2 c_law_pick (wCons (wV 1) (wCons (wCall0 c_law_books) wNil))) (wCons (wOp gAdd (wC (.int 1)) (wCall 2 c_law_draw (wCons (wV 1) (wCons (wC (.int 3)) wNil)))) wNil))) wb_law_6)
def wb_law_8 : TDS := (wSeq (wFor (wiR1 (wCons (wC (.int 6)) wNil)) (wgN 2) wb_law_7) (wRet (wC (.bl true))))
def wb_law : TDS := (wSeq (wSet 1 (wCall 1 c_law_pot (wCons (wV 0) wNil))) wb_law_8)
end Ly.K12

namespace Ly
open PySem PySem.Spec PyProof.Rows L2
local macro_rules | `(tactic| walk_at "w") => `(tactic| try simp only [wRet, wRetN, wAndV, wOrV, wNotV, wCB, wCons, wNil, wV, wC, wChain, wTst, wTNot, wTAnd, wTOr, wIf, wOp, wIxN, wIx, wTup, wLst, wLenN, wSeq, wSkip, wIfS, wSet, wAsg, wgTup_iff, wgCons_iff, wgNil_iff, wgN, wCall, wCall0, wPar2, wPar3, wSl, woN, woS, wNeg, wDrop, wDct, wDct1, wListR1, wFor, wiR1, wiR2, wiSeq, wiEn, wiZip, wLc, wYes, wApp, wPop, wgIx,
  gIsi_iff, gLen_iff, gTuple_iff, gList_iff, gAll_iff, gI_iff, gAbs_iff, gMM_iff, gInt_iff, gEq_int, gEq_str, gEq_emp, listOf, gAdd_int, gAdd_tup, gAdd_lst, gAdd_lstN, gAdd_Nlst, gAdd_new, gMul_int, gMul_tup, gIsN_iff, gSl_tup, gSl_lst, gSl_new, sqL, sqT, sqN, ssL, ssT, ssO, dOf_val, dOf_new, svOf_val, svOf_new, kI, kB, kT, wipeD,
  List.getElem?_cons_zero, List.getElem?_cons_succ, List.getElem?_nil, List.set_cons_zero, List.set_cons_succ, List.map_cons, List.map_nil, List.length_cons, List.length_nil, RV.val.injEq, RV.new.injEq, D.bl.injEq, D.int.injEq, D.str.injEq, D.tup.injEq, D.lst.injEq, SV.val.injEq, SV.own.injEq, Option.some.injEq, exists_eq_left', exists_eq_left, exists_and_left, exists_eq_right, true_and, and_true, Bool.not_true, Bool.not_false, Bool.false_eq_true, if_true, if_false, reduceIte, ite_self, Bool.true_xor, Bool.false_xor, Bool.not_eq_true', decide_eq_true_eq, List.cons.injEq, isNon, exists_eq, exists_eq', at0, at1, mvD_len, tlD_len, rowD_def])
theorem h_is_integer : ∀ ds n Q, ds.length = 1 → c_is_integer ds n Q → wb_is_integer { nx := fun _ n' => Q .non n', rt := Q } (startD ["value"] ds) n := by
  rintro ds n Q - ⟨v, rfl, hp, hq⟩
  show wb_is_integer _ [.val v] n
  cases hp <;> (unfold wb_is_integer; walk_at "w"; try exact hq)
theorem h_is_whole : ∀ ds n Q, ds.length = 3 → c_is_whole ds n Q → wb_is_whole { nx := fun _ n' => Q .non n', rt := Q } (startD ["value", "low", "high"] ds) n := by
  rintro ds n Q - ⟨v, lo, hi, rfl, hp, hq⟩
  show wb_is_whole _ [.val v, .val (.int lo), .val (.int hi)] n
  unfold wb_is_whole; walk_at "w"
  refine ⟨v, rfl, hp, ?_⟩
  cases hp <;> (simp only [isInt]; walk_at "w"; try exact hq)
  rename_i i
  simp only [whole] at hq
  by_cases h : lo ≤ i
  · rw [if_pos h]; simpa [h] using hq
  · rw [if_neg h]; simpa [h] using hq
theorem h_whole1 : ∀ ds n Q, ds.length = 3 → c_is_whole ds n Q → wb_law_is_number { nx := fun _ n' => Q .non n', rt := Q } (startD ["value", "least_one", "most_one"] ds) n := by
  rintro ds n Q - ⟨v, lo, hi, rfl, hp, hq⟩
  show wb_law_is_number _ [.val v, .val (.int lo), .val (.int hi)] n
  cases hp <;> (unfold wb_law_is_number; walk_at "w"; try exact hq)
  rename_i i
  simp only [whole] at hq
  by_cases h : lo ≤ i
  · rw [if_pos h]; simpa [h] using hq
  · rw [if_neg h]; simpa [h] using hq
theorem seqS_val {s : D} : seqS (.val s) = seqOf (.val s) := by cases s <;> rfl
theorem atI_ok {l : List D} {k : Int} (h0 : 0 ≤ k) (h1 : k < l.length) : ∃ d, atI l k = some d ∧ d ∈ l := by
  obtain ⟨j, rfl⟩ : ∃ j : Nat, k = j := ⟨k.toNat, by omega⟩
  have hj : j < l.length := by omega
  exact ⟨l[j], atI_nat (List.getElem?_eq_getElem hj), List.getElem_mem hj⟩
theorem ret.mono {n c : Nat} {P P' : D → Prop} {Q : D → Nat → Prop} (h : ret n c P' Q) (i : ∀ d, P d → P' d) : ret n c P Q := ⟨h.1, fun d n' p a b => h.2 d n' (i d p) a b⟩
theorem h_law_pick : ∀ ds n Q, ds.length = 2 → c_law_pick ds n Q → wb_law_pick { nx := fun _ n' => Q .non n', rt := Q } (startD ["bag", "row"] ds) n := by
  rintro ds n Q - ⟨a, s, l, rfl, hs, h1, h2, hb, hr⟩
  show wb_law_pick _ [.val (.bag a), .val s] n
  unfold wb_law_pick; walk_at "w"
  rw [seqS_val, hs]
  refine ⟨⟨l, rfl⟩, l, rfl, a, l.length, rfl, by omega, by omega, hb, fun d n' ⟨k, e, k0, k1⟩ a1 a2 => ?_⟩
  subst e
  obtain ⟨x, hx, hm⟩ := atI_ok (l := l) k0 k1
  exact ⟨l, rfl, k, rfl, x, hx, hr _ _ hm a1 a2⟩
theorem h_law_names : ∀ ds n Q, ds.length = 0 → c_law_names ds n Q → wb_law_names { nx := fun _ n' => Q .non n', rt := Q } (startD [] ds) n := by
  rintro ds n Q - ⟨rfl, hq⟩
  show wb_law_names _ [] n
  unfold wb_law_names; walk_at "w"
  exact ⟨by decide, hq⟩
theorem h_kinds : ∀ ds n Q, ds.length = 1 → c_kinds ds n Q → wb_kinds { nx := fun _ n' => Q .non n', rt := Q } (startD ["teller"] ds) n := by
  rintro ds n Q - ⟨m, s, t, d, rfl, hs, ⟨mv, tl, rfl, h1, h2, h3, h4⟩, hq⟩
  show wb_kinds _ [.val _] n
  unfold wb_kinds; walk_at "w"
  cases mv with
  | nil => simp at h1; omega
  | cons r mv =>
    simp only [mvD, List.map_cons]
    walk_at "w"
    have := (h3 r List.mem_cons_self).1
    rw [List.length_map, this]
    exact hq
theorem h_law_with : ∀ ds n Q, ds.length = 3 → c_law_with ds n Q → wb_law_with { nx := fun _ n' => Q .non n', rt := Q } (startD ["row", "place", "value"] ds) n := by
  rintro ds n Q - ⟨l, p, v, rfl, h1, h2, hq⟩
  show wb_law_with _ [.val _, .val _, .val _] n
  unfold wb_law_with; walk_at "w"
  rw [cut_to, show ((p : Int) + 1) = ((p + 1 : Nat) : Int) by omega, cut_from]
  have a1 : (l.take p).length ≤ 1000 := Nat.le_trans (List.length_take_le _ _) h2
  have a2 : (l.drop (p + 1)).length ≤ 1000 := by rw [List.length_drop]; omega
  exact ⟨by decide, sz (by omega), sz (by rw [List.length_append]; simp only [List.length_cons, List.length_nil]; omega), hq⟩
theorem h_is_pair_of_tuples : ∀ ds n Q, ds.length = 1 → c_is_pair_of_tuples ds n Q → wb_is_pair_of_tuples { nx := fun _ n' => Q .non n', rt := Q } (startD ["value"] ds) n := by
  rintro ds n Q - ⟨v, rfl, hp, hq⟩
  show wb_is_pair_of_tuples _ [.val _] n
  cases hp <;> (unfold wb_is_pair_of_tuples; walk_at "w"; try exact hq)
  rename_i l hl hm
  rw [if_neg (by decide)]
  match l, hm with
  | [], _ => rw [if_pos (by simp)]; exact hq
  | [x], _ => rw [if_pos (by simp)]; have e : isPair (.tup [x]) = false := by cases x <;> rfl
              rw [e] at hq; exact hq
  | [x, y], hm =>
    rw [if_neg (by simp)]
    unfold wb_is_pair_of_tuples_1
    walk_at "w"
    have hx := hm x (by simp)
    have hy := hm y (by simp)
    cases hx <;> cases hy <;> (walk_at "w"; exact hq)
  | x :: y :: z :: r, _ =>
    rw [if_pos (by simp; omega)]
    have e : isPair (.tup (x :: y :: z :: r)) = false := by cases x <;> cases y <;> rfl
    rw [e] at hq; exact hq
theorem h_law_row : ∀ ds n Q, ds.length = 3 → c_law_row ds n Q → wb_law_row { nx := fun _ n' => Q .non n', rt := Q } (startD ["bag", "many", "long", "turn"] ds) n := by
  rintro ds n Q - ⟨a, m, l, rfl, h1, h2, h3, hb, hr⟩
  show wb_law_row _ [.val _, .val _, .val _, .un] n
  unfold wb_law_row; walk_at "w"
  refine ⟨⟨by omega, by omega⟩, ?_⟩
  refine comp_inv (fun i acc ρ n' => ρ = [.val (.bag a), .val (.int m), .val (.int l), .un] ∧ n ≤ n' ∧ n' ≤ n + i ∧ ∃ r : List Int, acc = r.map .int ∧ r.length = i ∧ ∀ x ∈ r, 0 ≤ x ∧ x < (m : Int)) ?_ ⟨rfl, Nat.le_refl _, Nat.le_refl _, [], rfl, rfl, by simp⟩ ?_
  · rintro i d acc ρ n' hd ⟨rfl, b1, b2, r, rfl, hr1, hr2⟩ K hK
    obtain ⟨hi, rfl⟩ := rgD_get hd
    walk_at "w"
    refine ⟨a, m, rfl, by omega, by omega, by omega, ?_⟩
    rintro d n2 ⟨k, rfl, k0, k1⟩ c1 c2
    refine ⟨szl (by rw [List.length_map, hr1]; omega), hK _ _ _ ⟨rfl, by omega, by omega, r ++ [k], by simp, by simp [hr1], ?_⟩⟩
    intro x hx
    rcases List.mem_append.mp hx with hx | hx
    · exact hr2 x hx
    · simp at hx; subst hx; exact ⟨k0, k1⟩
  · rintro acc ρ n' ⟨rfl, b1, b2, r, rfl, hr1, hr2⟩
    rw [rgD_len] at b2 hr1
    exact hr _ _ ⟨r, rfl, by omega, hr2⟩ b1 (by omega)
theorem h_law_odd : ∀ ds n Q, ds.length = 2 → c_law_odd ds n Q → wb_law_odd { nx := fun _ n' => Q .non n', rt := Q } (startD ["jar", "bound"] ds) n := by
  rintro ds n Q - ⟨a, b, rfl, hb, hr⟩
  show wb_law_odd _ [.val _, .val _] n
  unfold wb_law_odd; walk_at "w"
  refine ⟨by decide, by decide, ⟨by decide, by decide, by decide⟩, by decide, by decide, a, _, _, rfl, rfl, by simp, by simp, hb, ?_⟩
  intro d n' hd b1 b2
  refine hr d n' ?_ b1 b2
  simp only [List.mem_cons, List.not_mem_nil, or_false] at hd
  rcases hd with rfl | rfl | rfl | rfl | rfl | rfl | rfl | rfl | rfl | rfl | rfl | rfl <;> first | constructor | skip
  · simp
  · intro d hd; simp at hd; subst hd; constructor
  · simp
  · intro d hd; simp at hd; subst hd; constructor
  · simp
  · intro d hd; simp at hd
end Ly

namespace Ly.K12
open PySem PySem.Spec PyProof.Rows L2
local macro_rules | `(tactic| walk_at "w") => `(tactic| try simp only [wRet, wRetN, wAndV, wOrV, wNotV, wCB, wCons, wNil, wV, wC, wChain, wTst, wTNot, wTAnd, wTOr, wIf, wOp, wIxN, wIx, wTup, wLst, wLenN, wSeq, wSkip, wIfS, wSet, wAsg, wgTup_iff, wgCons_iff, wgNil_iff, wgN, wCall, wCall0, wPar2, wPar3, wSl, woN, woS, wNeg, wDrop, wDct, wDct1, wListR1, wFor, wiR1, wiR2, wiSeq, wiEn, wiZip, wLc, wYes, wApp, wPop, wgIx,
  gIsi_iff, gLen_iff, gTuple_iff, gList_iff, gAll_iff, gI_iff, gAbs_iff, gMM_iff, gInt_iff, gEq_int, gEq_str, gEq_emp, listOf, gAdd_int, gAdd_tup, gAdd_lst, gAdd_lstN, gAdd_Nlst, gAdd_new, gMul_int, gMul_tup, gIsN_iff, gSl_tup, gSl_lst, gSl_new, sqL, sqT, sqN, ssL, ssT, ssO, dOf_val, dOf_new, svOf_val, svOf_new, kI_non, kI_bl, kI_int, kI_str, kI_tup, kI_lst, kI_dct, kI_dc0, kB_non, kB_bl, kB_int, kB_str, kB_tup, kB_lst, kB_dct, kB_dc0, kT_non, kT_bl, kT_int, kT_str, kT_tup, kT_lst, kT_dct, kT_dc0, kS_non, kS_bl, kS_int, kS_str, kS_tup, kS_lst, kS_dct, kS_dc0, wipeD,
  List.getElem?_cons_zero, List.getElem?_cons_succ, List.getElem?_nil, List.set_cons_zero, List.set_cons_succ, List.map_cons, List.map_nil, List.length_cons, List.length_nil, RV.val.injEq, RV.new.injEq, D.bl.injEq, D.int.injEq, D.str.injEq, D.tup.injEq, D.lst.injEq, SV.val.injEq, SV.own.injEq, Option.some.injEq, exists_eq_left', exists_eq_left, exists_and_left, exists_eq_right, true_and, and_true, Bool.not_true, Bool.not_false, Bool.false_eq_true, if_true, if_false, reduceIte, ite_self, Bool.true_xor, Bool.false_xor, Bool.not_eq_true', decide_eq_true_eq, List.cons.injEq, isNon, exists_eq, exists_eq', at0, at1, mvD_len, tlD_len, rowD_def, wDNew, wDGet, wDIn, wDPut, wDOne, wAugI, wTry, wRaise, wCallX, wInG, wExt, wCallK, wDc0, pick, List.filterMap_cons, List.filterMap_nil, isOwnD, SV.ownD.injEq, svOf_newD, key_pair])
theorem toPys_strs : ∀ ss : List Str, toPys (ss.map .str) = some (ss.map PyData.str)
  | [] => rfl
  | s :: ss => by rw [List.map_cons, toPys, toPys_strs ss]; rfl
theorem gIn_strs {neg : Bool} {r : RV} {p : PyData} {r2 : RV} {ss : List Str} {R : RV → Prop} (hd : toPy (dOf r) = some p) (hs : SeqAt.shaped p = true) (h2 : seqOf r2 = some (ss.map .str)) (ok : SeqAt.shaped (.list (ss.map PyData.str)) = true) (q : R (.val (.bl (xor neg (isStrIn ss (dOf r)))))) : gIn neg r r2 R :=
  ⟨p, _, _, hd, h2, toPys_strs ss, hs, ok, by rw [any_strs hd]; exact q⟩
theorem toPy_row (r : List Int) : toPy (rowD r) = some (.tuple (r.map .int)) := by
  have e : ∀ r : List Int, toPys (r.map D.int) = some (r.map PyData.int) := by
    intro r
    induction r with
    | nil => rfl
    | cons x r ih => rw [List.map_cons, toPys, ih]; rfl
  unfold rowD
  rw [toPy, e]; rfl
theorem shaped_row (r : List Int) : SeqAt.shaped (.tuple (r.map .int)) = true := by
  unfold SeqAt.shaped
  rw [PyData.canLay0, PyData.depth, lay_ints, dep_ints]; rfl
theorem eqv_row (r : List Int) : PyData.eqv (.tuple (r.map PyData.int)) (.tuple []) = r.isEmpty := by
  cases r <;> simp [PyData.eqv, PyData.eqvAll]
theorem gEq_row {ne : Bool} {r : List Int} {R : RV → Prop} (q : R (.val (.bl (xor ne r.isEmpty)))) : gEq ne (.val (rowD r)) (.val (.tup [])) R :=
  ⟨_, _, toPy_row r, rfl, shaped_row r, rfl, by rw [eqv_row]; exact q⟩
theorem ok_w5 : ∀ w ∈ W5, SeqAt.shaped (.str w) = true := by decide +kernel
theorem ok_books : ∀ b ∈ theBooks, SeqAt.shaped (.list (b.map PyData.str)) = true := by decide +kernel
theorem books_w5 : ∀ b ∈ theBooks, ∀ w ∈ b, w ∈ W5 := by decide +kernel
theorem books_len : ∀ b ∈ theBooks, b.length ≤ 4 := by decide +kernel
theorem pl_row {r : List Int} (h : r.length ≤ 1000) : Pl (rowD r) := .tup (by rw [List.length_map]; exact h) fun d hd => by
  obtain ⟨x, _, rfl⟩ := List.mem_map.mp hd
  exact .int x
theorem h_law_letters : ∀ ds n Q, ds.length = 3 → c_law_letters ds n Q → wb_law_letters { nx := fun _ n' => Q .non n', rt := Q } (startD ["pot", "many", "size", "place"] ds) n := by
  rintro ds n Q - ⟨a, m, k, rfl, m1, m3, hk, hb, hr⟩
  show wb_law_letters _ [.val (.bag a), .val (.int m), .val (.int k), .un] n
  unfold wb_law_letters; walk_at "w"
  refine ⟨⟨by omega, by omega⟩, ?_⟩
  refine comp_map (fun _ d => ∃ k, d = .int k ∧ 0 ≤ k ∧ k < (m : Int)) 1 ?_ (by rw [rgD_len]; omega) ?_
  · intro j d n2 hd c1 c2 K2 hK2
    obtain ⟨hj, rfl⟩ := rgD_get hd
    walk_at "w"
    refine ⟨a, m, rfl, by omega, by omega, by omega, fun d n3 hd e1 e2 => hK2 _ _ _ hd rfl e1 e2⟩
  · intro l n2 hl2 hP2 c1 c2
    rw [rgD_len] at hl2 c2
    obtain ⟨tl, rfl, htl⟩ := all_ints hP2
    rw [List.length_map] at hl2
    exact hr _ _ ⟨tl, rfl, by omega, htl⟩ (by omega) (by omega)
theorem h_law_row : ∀ ds n Q, ds.length = 3 → c_law_row ds n Q → wb_law_row { nx := fun _ n' => Q .non n', rt := Q } (startD ["pot", "many", "limit"] ds) n := by
  rintro ds n Q - ⟨a, m, l, rfl, m1, m3, hl, hb, hr⟩
  show wb_law_row _ [.val (.bag a), .val (.int m), .val (.int l)] n
  unfold wb_law_row; walk_at "w"
  refine ⟨a, (l : Int) + 1, rfl, by omega, by omega, by omega, ?_⟩
  rintro _ n2 ⟨k, rfl, k0, k1⟩ c1 c2
  obtain ⟨j, rfl⟩ : ∃ j : Nat, k = j := ⟨k.toNat, by omega⟩
  refine ⟨a, m, j, rfl, m1, m3, by omega, by omega, ?_⟩
  rintro _ n3 ⟨r, rfl, r1, r2⟩ c3 c4
  exact hr _ _ ⟨r, rfl, by omega, r2⟩ (by omega) (by omega)
theorem h_law_words : ∀ ds n Q, ds.length = 0 → c_law_words ds n Q → wb_law_words { nx := fun _ n' => Q .non n', rt := Q } (startD [] ds) n := by
  rintro ds n Q - ⟨rfl, hq⟩
  show wb_law_words _ [] n
  unfold wb_law_words; walk_at "w"
  exact ⟨by decide, hq⟩
end Ly.K12

namespace Ly.K12
open PySem PySem.Spec PyProof.Rows L2
local macro_rules | `(tactic| walk_at "w") => `(tactic| try simp only [wRet, wRetN, wAndV, wOrV, wNotV, wCB, wCons, wNil, wV, wC, wChain, wTst, wTNot, wTAnd, wTOr, wIf, wOp, wIxN, wIx, wTup, wLst, wLenN, wSeq, wSkip, wIfS, wSet, wAsg, wgTup_iff, wgCons_iff, wgNil_iff, wgN, wCall, wCall0, wPar2, wPar3, wSl, woN, woS, wNeg, wDrop, wDct, wDct1, wListR1, wFor, wiR1, wiR2, wiSeq, wiEn, wiZip, wLc, wYes, wApp, wPop, wgIx,
  gIsi_iff, gLen_iff, gTuple_iff, gList_iff, gAll_iff, gI_iff, gAbs_iff, gMM_iff, gInt_iff, gEq_int, gEq_str, gEq_emp, listOf, gAdd_int, gAdd_tup, gAdd_lst, gAdd_lstN, gAdd_Nlst, gAdd_new, gMul_int, gMul_tup, gIsN_iff, gSl_tup, gSl_lst, gSl_new, sqL, sqT, sqN, ssL, ssT, ssO, dOf_val, dOf_new, svOf_val, svOf_new, kI_non, kI_bl, kI_int, kI_str, kI_tup, kI_lst, kI_dct, kI_dc0, kB_non, kB_bl, kB_int, kB_str, kB_tup, kB_lst, kB_dct, kB_dc0, kT_non, kT_bl, kT_int, kT_str, kT_tup, kT_lst, kT_dct, kT_dc0, kS_non, kS_bl, kS_int, kS_str, kS_tup, kS_lst, kS_dct, kS_dc0, wipeD,
  List.getElem?_cons_zero, List.getElem?_cons_succ, List.getElem?_nil, List.set_cons_zero, List.set_cons_succ, List.map_cons, List.map_nil, List.length_cons, List.length_nil, RV.val.injEq, RV.new.injEq, D.bl.injEq, D.int.injEq, D.str.injEq, D.tup.injEq, D.lst.injEq, SV.val.injEq, SV.own.injEq, Option.some.injEq, exists_eq_left', exists_eq_left, exists_and_left, exists_eq_right, true_and, and_true, Bool.not_true, Bool.not_false, Bool.false_eq_true, if_true, if_false, reduceIte, ite_self, Bool.true_xor, Bool.false_xor, Bool.not_eq_true', decide_eq_true_eq, List.cons.injEq, isNon, exists_eq, exists_eq', at0, at1, mvD_len, tlD_len, rowD_def, wDNew, wDGet, wDIn, wDPut, wDOne, wAugI, wTry, wRaise, wCallX, wInG, wExt, wCallK, wDc0, pick, List.filterMap_cons, List.filterMap_nil, isOwnD, SV.ownD.injEq, svOf_newD, key_pair])
theorem str_puts : ∀ w : Str, isStrIn gt_PUTTING (.str w) = decide (w ∈ puts) := fun _ => rfl
theorem str_words : ∀ w : Str, isStrIn gt_WORDS (.str w) = decide (w ∈ W5) := fun _ => rfl
theorem str_takes : ∀ w : Str, isStrIn gt_TAKING (.str w) = decide (w ∈ takes) := fun _ => rfl
theorem h_is_built_as_deed : ∀ ds n Q, ds.length = 1 → c_is_built_as_deed ds n Q → wb_is_built_as_deed { nx := fun _ n' => Q .non n', rt := Q } (startD ["value"] ds) n := by
  rintro ds n Q - ⟨v, rfl, hv, hq⟩
  show wb_is_built_as_deed _ [.val v] n
  have hty := hv.ty
  cases v with
  | tup l =>
    obtain ⟨hl, hi⟩ := hv.it l rfl
    unfold wb_is_built_as_deed; walk_at "w"
    rw [if_neg (by decide)]
    cases l with
    | nil => rw [if_pos (by simp)]; exact hq
    | cons d l =>
      rw [if_neg (by simp; omega)]
      obtain ⟨_, p, hp, hs⟩ := hi d List.mem_cons_self
      refine ⟨d, at0, p, hp, hs, ?_⟩
      rw [any_strs hp]
      cases d with
      | str w =>
        rw [str_words]
        by_cases hw : w ∈ W5
        · rw [if_neg (by simp [hw])]
          unfold wb_is_built_as_deed_1; walk_at "w"
          refine ⟨p, hp, hs, ?_⟩
          rw [any_strs hp, str_puts]
          have e2 : ∀ a : Nat, decide (((a + 1 : Nat) : Int) = 2) = decide (a = 1) := fun a => decide_eq_decide.mpr (by omega)
          have e1 : ∀ a : Nat, decide (((a + 1 : Nat) : Int) = 1) = decide (a = 0) := fun a => decide_eq_decide.mpr (by omega)
          by_cases h2 : w ∈ puts
          · rw [if_pos (by simp [h2]), e2]
            simpa [hw, rightLen, h2] using hq
          · rw [if_neg (by simp [h2]), e1]
            simpa [hw, rightLen, h2] using hq
        · rw [if_pos (by simp [hw])]
          simpa [hw] using hq
      | _ => exact hq
  | bag _ => exact absurd hty (by rw [kT]; simp)
  | scr _ => exact absurd hty (by rw [kT]; simp)
  | ty _ => exact absurd hty (by rw [kT]; simp)
  | non => unfold wb_is_built_as_deed; walk_at "w"; exact hq
  | bl _ => unfold wb_is_built_as_deed; walk_at "w"; exact hq
  | int _ => unfold wb_is_built_as_deed; walk_at "w"; exact hq
  | str _ => unfold wb_is_built_as_deed; walk_at "w"; exact hq
  | lst _ => unfold wb_is_built_as_deed; walk_at "w"; exact hq
  | dct => unfold wb_is_built_as_deed; walk_at "w"; exact hq
  | dc0 => unfold wb_is_built_as_deed; walk_at "w"; exact hq
def built (v : D) : Bool := match v with
  | .tup (.str w :: l) => decide (w ∈ W5) && rightLen w l
  | _ => false
theorem derr_form {b : List Str} {m : Int} {r : List Int} {v : D} (h : built v = false) : derr b m r v = .str "form" := by
  unfold built at h
  split at h
  · rename_i w l
    unfold derr
    dsimp only
    rw [if_neg]
    intro ⟨h1, h2⟩
    rw [h2] at h
    simp [h1] at h
  · rename_i hne
    unfold derr
    split
    · rename_i w l
      exact absurd rfl (hne w l)
    · rfl
theorem built_of {v : D} (h : built v = true) : ∃ w l, v = .tup (.str w :: l) ∧ w ∈ W5 ∧ rightLen w l = true := by
  unfold built at h
  split at h
  · rename_i w l
    simp at h
    exact ⟨w, l, rfl, h.1, h.2⟩
  · cases h
theorem takes_w {b : List Str} (hb : b ∈ theBooks) : toPys (b.map .str) = some (b.map PyData.str) := toPys_strs b
theorem h_deed_error : ∀ ds n Q, ds.length = 4 → c_deed_error ds n Q → wb_deed_error { nx := fun _ n' => Q .non n', rt := Q } (startD ["book", "many", "row", "value", "word"] ds) n := by
  rintro ds n Q - ⟨b, m, r, v, rfl, hb, hv, hq⟩
  show wb_deed_error _ [.val (bookD b), .val (.int m), .val (rowD r), .val v, .un] n
  unfold wb_deed_error; walk_at "w"
  refine ⟨v, rfl, hv, ?_⟩
  refine ⟨built v, rfl, ?_⟩
  cases hbl : built v with
  | false =>
    rw [if_pos rfl]
    rw [derr_form hbl] at hq
    exact hq
  | true =>
    rw [if_neg (by decide)]
    obtain ⟨w, l, rfl, hw, hl⟩ := built_of hbl
    obtain ⟨_, hi⟩ := hv.it _ rfl
    obtain ⟨_, p, hp, hs⟩ := hi _ List.mem_cons_self
    unfold wb_deed_error_4; walk_at "w"
    unfold wb_deed_error_3; walk_at "w"
    have hd : derr b m r (.tup (.str w :: l)) = if letterOk w l m = false then .str "letter" else if w ∉ b then .str "book" else if w ∈ takes ∧ r = [] then .str "empty" else .non := by
      unfold derr
      dsimp only
      rw [if_pos ⟨hw, hl⟩]
    rw [hd] at hq
    have rest : letterOk w l m = true → wb_deed_error_2 { nx := fun x n' => Q D.non n', rt := Q } [SV.val (bookD b), SV.val (D.int m), SV.val (D.tup (List.map D.int r)), SV.val (D.tup (D.str w :: l)), SV.val (D.str w)] n := by
      intro hk
      rw [if_neg (by rw [hk]; decide)] at hq
      unfold wb_deed_error_2; walk_at "w"
      refine gIn_strs hp hs rfl (ok_books b hb) ?_
      refine ⟨_, rfl, ?_⟩
      change if (xor true (decide (w ∈ b))) = true then _ else _
      by_cases hwb : w ∈ b
      · rw [if_neg (by simp [hwb])]
        rw [if_neg (by simp [hwb])] at hq
        unfold wb_deed_error_1; walk_at "w"
        refine ⟨p, hp, hs, ?_⟩
        rw [any_strs hp, str_takes, List.length_map]
        by_cases h3 : w ∈ takes
        · rw [if_pos (by simp [h3])]
          by_cases h4 : r = []
          · subst h4
            rw [if_pos (show ((([] : List Int).length : Nat) : Int) = 0 from rfl)]
            rw [if_pos ⟨h3, rfl⟩] at hq
            exact hq
          · rw [if_neg (by intro z; exact h4 (List.length_eq_zero_iff.mp (by omega)))]
            rw [if_neg (fun z => h4 z.2)] at hq
            exact hq
        · rw [if_neg (by simp [h3])]
          rw [if_neg (fun z => h3 z.1)] at hq
          exact hq
      · rw [if_pos (by simp [hwb])]
        rw [if_pos hwb] at hq
        exact hq
    refine ⟨p, hp, hs, ?_⟩
    rw [any_strs hp, str_puts]
    by_cases h2 : w ∈ puts
    · rw [if_pos (by simp [h2])]
      obtain ⟨x, rfl⟩ : ∃ x, l = [x] := by
        have e : l.length = 1 := by simpa [rightLen, h2] using hl
        match l, e with
        | [x], _ => exact ⟨x, rfl⟩
      refine ⟨x, at1, x, _, _, rfl, (hi x (by simp)).1, whole x 0 (m - 1), rfl, ?_⟩
      have e3 : letterOk w [x] m = whole x 0 (m - 1) := by simp [letterOk, h2]
      cases hk : whole x 0 (m - 1) with
      | false =>
        rw [if_pos rfl]
        rw [if_pos (by rw [e3, hk])] at hq
        exact hq
      | true => rw [if_neg (by decide)]; exact rest (by rw [e3, hk])
    · rw [if_neg (by simp [h2])]
      exact rest (by simp [letterOk, h2])
theorem h_law_is_whole : ∀ ds n Q, ds.length = 3 → c_law_is_whole ds n Q → wb_law_is_whole { nx := fun _ n' => Q .non n', rt := Q } (startD ["value", "lean", "limit"] ds) n := fun ds n Q h1 h2 => h_whole1 ds n Q h1 h2
theorem gIn_12 {neg : Bool} {k : Int} {R : RV → Prop} (q : R (.val (.bl (xor neg (decide (k = 1 ∨ k = 2)))))) : gIn neg (.val (.int k)) (.val (.tup [.int 1, .int 2])) R := by
  refine ⟨.int k, _, [.int 1, .int 2], rfl, rfl, rfl, rfl, rfl, ?_⟩
  have e : ([PyData.int 1, PyData.int 2].any fun z => PyData.eqv z (.int k)) = decide (k = 1 ∨ k = 2) := by
    simp only [List.any_cons, List.any_nil, PyData.eqv, Bool.or_false]
    rw [Bool.eq_iff_iff]
    simp
    omega
  rw [e]; exact q
def isStr (d : D) : Bool := match d with
  | .str _ => true
  | _ => false
theorem pl_isStr {d : D} (h : Pl d) : isiB d "str" = some (isStr d) := by cases h <;> (rw [kS]; rfl)
theorem h_law_deed_fault : ∀ ds n Q, ds.length = 4 → c_law_deed_fault ds n Q → wb_law_deed_fault { nx := fun _ n' => Q .non n', rt := Q } (startD ["book", "many", "row", "value"] ds) n := by
  rintro ds n Q - ⟨b, m, r, v, rfl, hb, hrl, hv, hq⟩
  show wb_law_deed_fault _ [.val (bookD b), .val (.int m), .val (rowD r), .val v] n
  have hty := hv.ty
  cases v with
  | tup l =>
    obtain ⟨hl, hi⟩ := hv.it l rfl
    unfold wb_law_deed_fault; walk_at "w"
    rw [if_neg (by decide)]
    refine ⟨by decide, gIn_12 ⟨_, rfl, ?_⟩⟩
    by_cases hl2 : (l.length : Int) = 1 ∨ (l.length : Int) = 2
    · rw [if_neg (by simp [hl2])]
      obtain ⟨d, l', rfl⟩ : ∃ d l', l = d :: l' := by
        cases l with
        | nil => simp at hl2
        | cons d l' => exact ⟨d, l', rfl⟩
      obtain ⟨hpd, p, hp, hs⟩ := hi d List.mem_cons_self
      refine ⟨d, at0, _, pl_isStr hpd, ?_⟩
      cases d with
      | str w =>
        rw [if_neg (by simp [isStr])]
        unfold wb_law_deed_fault_5; walk_at "w"
        refine ⟨rfl, by decide, ?_⟩
        rw [gAdd_tup]
        refine ⟨by decide, ?_⟩
        refine gIn_strs (ss := ["put left", "put right", "take left", "take right", "slide"]) hp hs rfl (by decide +kernel) ⟨_, rfl, ?_⟩
        change if (xor true (decide (w ∈ _))) = true then _ else _
        have e5 : (w ∈ (["put left", "put right", "take left", "take right", "slide"] : List Str)) ↔ w ∈ W5 := by simp [W5]; grind
        by_cases hw : w ∈ W5
        · rw [if_neg (by simp only [e5, hw]; decide)]
          have hd : derr b m r (.tup (.str w :: l')) = if rightLen w l' = true then (if letterOk w l' m = false then .str "letter" else if w ∉ b then .str "book" else if w ∈ takes ∧ r = [] then .str "empty" else .non) else .str "form" := by
            unfold derr
            dsimp only
            by_cases h : rightLen w l' = true
            · rw [if_pos ⟨hw, h⟩, if_pos h]
            · rw [if_neg (fun z => h z.2), if_neg h]
          rw [hd] at hq
          have rest2 : rightLen w l' = true → letterOk w l' m = true → wb_law_deed_fault_2 { nx := fun x n' => Q D.non n', rt := Q } [SV.val (bookD b), SV.val (D.int m), SV.val (D.tup (List.map D.int r)), SV.val (D.tup (D.str w :: l'))] n := by
            intro hr hk
            rw [if_pos hr, if_neg (by rw [hk]; decide)] at hq
            unfold wb_law_deed_fault_2; walk_at "w"
            refine gIn_strs hp hs rfl (ok_books b hb) ?_
            refine ⟨_, rfl, ?_⟩
            change if (xor true (decide (w ∈ b))) = true then _ else _
            by_cases hwb : w ∈ b
            · rw [if_neg (by simp [hwb])]
              rw [if_neg (by simp [hwb])] at hq
              unfold wb_law_deed_fault_1; walk_at "w"
              have e7 : ∀ w ∈ W5, (w ∈ (["put left", "put right"] : List Str)) ↔ ¬ w ∈ takes := by decide +kernel
              refine ⟨by decide, ?_⟩
              refine gEq_row (r := r) ?_
              refine ⟨_, rfl, ?_⟩
              cases hr0 : r with
              | nil =>
                rw [if_pos (by decide)]
                refine ⟨by decide, ?_⟩
                refine gIn_strs (ss := ["put left", "put right"]) hp hs rfl (by decide +kernel) ?_
                refine ⟨_, rfl, ?_⟩
                change if (xor true (decide (w ∈ _))) = true then _ else _
                by_cases h4 : w ∈ takes
                · rw [if_pos (by simp only [e7 w hw, h4]; decide)]
                  rw [if_pos ⟨h4, hr0⟩] at hq
                  exact hq
                · rw [if_neg (by simp only [e7 w hw, h4]; decide)]
                  rw [if_neg (fun z => h4 z.1)] at hq
                  exact hq
              | cons x r' =>
                rw [if_neg (by simp)]
                rw [if_neg (fun z => by rw [hr0] at z; cases z.2)] at hq
                exact hq
            · rw [if_pos (by simp [hwb])]
              rw [if_pos hwb] at hq
              exact hq
          have rest : rightLen w l' = true → wb_law_deed_fault_3 { nx := fun x n' => Q D.non n', rt := Q } [SV.val (bookD b), SV.val (D.int m), SV.val (D.tup (List.map D.int r)), SV.val (D.tup (D.str w :: l'))] n := by
            intro hr
            unfold wb_law_deed_fault_3; walk_at "w"
            by_cases h2 : w ∈ puts
            · obtain ⟨x, rfl⟩ : ∃ x, l' = [x] := by
                have e : l'.length = 1 := by simpa [rightLen, h2] using hr
                match l', e with
                | [x], _ => exact ⟨x, rfl⟩
              rw [if_pos (by simp)]
              refine ⟨x, at1, x, _, _, rfl, (hi x (by simp)).1, whole x 0 (m - 1), rfl, ?_⟩
              have e3 : letterOk w [x] m = whole x 0 (m - 1) := by simp [letterOk, h2]
              cases hk : whole x 0 (m - 1) with
              | false =>
                rw [if_pos rfl]
                rw [if_pos hr, if_pos (by rw [e3, hk])] at hq
                exact hq
              | true => rw [if_neg (by decide)]; exact rest2 hr (by rw [e3, hk])
            · have e : l' = [] := by
                have e : l'.length = 0 := by simpa [rightLen, h2] using hr
                exact List.length_eq_zero_iff.mp e
              subst e
              rw [if_neg (by decide)]
              exact rest2 hr (by simp [letterOk, h2])
          unfold wb_law_deed_fault_4; walk_at "w"
          refine ⟨by decide, ?_⟩
          refine gIn_strs (ss := ["take left", "take right"]) hp hs rfl (by decide +kernel) ?_
          refine ⟨_, rfl, ?_⟩
          change if (xor false (decide (w ∈ _))) = true then _ else _
          have e6 : ∀ w ∈ W5, (w ∈ (["take left", "take right"] : List Str)) ↔ ¬ w ∈ puts := by decide +kernel
          by_cases h2 : w ∈ puts
          · rw [if_neg (by simp only [e6 w hw, h2]; decide)]
            by_cases h3 : l'.length = 1
            · rw [if_neg (by simp [h3])]
              exact rest (by simp [rightLen, h2, h3])
            · rw [if_pos (by simp; omega)]
              rw [if_neg (by simp [rightLen, h2, h3])] at hq
              exact hq
          · rw [if_pos (by simp only [e6 w hw, h2]; decide)]
            by_cases h3 : l'.length = 0
            · rw [if_neg (by simp [h3])]
              exact rest (by simp [rightLen, h2, h3])
            · rw [if_pos (by simp; omega)]
              rw [if_neg (by simp [rightLen, h2, h3])] at hq
              exact hq
        · rw [if_pos (by simp only [e5, hw]; decide)]
          rw [derr_form (by simp [built, hw])] at hq
          exact hq
      | _ => exact hq
    · rw [if_pos (by simp [hl2])]
      rw [derr_form] at hq
      · exact hq
      · unfold built
        split
        · rename_i w l' e
          injection e with e
          subst e
          rw [Bool.and_eq_false_iff]
          refine .inr ?_
          unfold rightLen
          refine decide_eq_false fun z => hl2 ?_
          rw [List.length_cons]
          split at z <;> omega
        · rfl
  | bag _ => exact absurd hty (by rw [kT]; simp)
  | scr _ => exact absurd hty (by rw [kT]; simp)
  | ty _ => exact absurd hty (by rw [kT]; simp)
  | non => unfold wb_law_deed_fault; walk_at "w"; exact hq
  | bl _ => unfold wb_law_deed_fault; walk_at "w"; exact hq
  | int _ => unfold wb_law_deed_fault; walk_at "w"; exact hq
  | str _ => unfold wb_law_deed_fault; walk_at "w"; exact hq
  | lst _ => unfold wb_law_deed_fault; walk_at "w"; exact hq
  | dct => unfold wb_law_deed_fault; walk_at "w"; exact hq
  | dc0 => unfold wb_law_deed_fault; walk_at "w"; exact hq
end Ly.K12

namespace Ly.K12
open PySem PySem.Spec PyProof.Rows L2
local macro_rules | `(tactic| walk_at "w") => `(tactic| try simp only [wRet, wRetN, wAndV, wOrV, wNotV, wCB, wCons, wNil, wV, wC, wChain, wTst, wTNot, wTAnd, wTOr, wIf, wOp, wIxN, wIx, wTup, wLst, wLenN, wSeq, wSkip, wIfS, wSet, wAsg, wgTup_iff, wgCons_iff, wgNil_iff, wgN, wCall, wCall0, wPar2, wPar3, wSl, woN, woS, wNeg, wDrop, wDct, wDct1, wListR1, wFor, wiR1, wiR2, wiSeq, wiEn, wiZip, wLc, wYes, wApp, wPop, wgIx,
  gIsi_iff, gLen_iff, gTuple_iff, gList_iff, gAll_iff, gI_iff, gAbs_iff, gMM_iff, gInt_iff, gEq_int, gEq_str, gEq_emp, listOf, gAdd_int, gAdd_tup, gAdd_lst, gAdd_lstN, gAdd_Nlst, gAdd_new, gMul_int, gMul_tup, gIsN_iff, gSl_tup, gSl_lst, gSl_new, sqL, sqT, sqN, ssL, ssT, ssO, dOf_val, dOf_new, svOf_val, svOf_new, kI_non, kI_bl, kI_int, kI_str, kI_tup, kI_lst, kI_dct, kI_dc0, kB_non, kB_bl, kB_int, kB_str, kB_tup, kB_lst, kB_dct, kB_dc0, kT_non, kT_bl, kT_int, kT_str, kT_tup, kT_lst, kT_dct, kT_dc0, kS_non, kS_bl, kS_int, kS_str, kS_tup, kS_lst, kS_dct, kS_dc0, wipeD,
  List.getElem?_cons_zero, List.getElem?_cons_succ, List.getElem?_nil, List.set_cons_zero, List.set_cons_succ, List.map_cons, List.map_nil, List.length_cons, List.length_nil, RV.val.injEq, RV.new.injEq, D.bl.injEq, D.int.injEq, D.str.injEq, D.tup.injEq, D.lst.injEq, SV.val.injEq, SV.own.injEq, Option.some.injEq, exists_eq_left', exists_eq_left, exists_and_left, exists_eq_right, true_and, and_true, Bool.not_true, Bool.not_false, Bool.false_eq_true, if_true, if_false, reduceIte, ite_self, Bool.true_xor, Bool.false_xor, Bool.not_eq_true', decide_eq_true_eq, List.cons.injEq, isNon, exists_eq, exists_eq', at0, at1, mvD_len, tlD_len, rowD_def, wDNew, wDGet, wDIn, wDPut, wDOne, wAugI, wTry, wRaise, wCallX, wInG, wExt, wCallK, wDc0, pick, List.filterMap_cons, List.filterMap_nil, isOwnD, SV.ownD.injEq, svOf_newD, key_pair])
theorem flat_take {b : List Str} {m i : Nat} {w : Str} (h : b[i]? = some w) : (b.take (i + 1)).flatMap (deed1 m) = (b.take i).flatMap (deed1 m) ++ deed1 m w := by
  rw [List.take_add_one, h, List.flatMap_append]
  simp
theorem list_ext {l : List D} {f : Nat → D} {k : Nat} (h1 : l.length = k) (h2 : ∀ i d, l[i]? = some d → d = f i) : l = (List.range k).map f := by
  refine List.ext_getElem? fun i => ?_
  rw [List.getElem?_map]
  by_cases h : i < k
  · rw [List.getElem?_range h, List.getElem?_eq_getElem (by omega)]
    exact congrArg some (h2 i _ (List.getElem?_eq_getElem (by omega)))
  · rw [List.getElem?_eq_none (by omega), List.getElem?_eq_none (by rw [List.length_range]; omega)]; rfl
theorem deed1_len {m : Nat} {w : Str} (h : m ≤ 3) : (deed1 m w).length ≤ 3 := by
  unfold deed1
  split
  · rw [List.length_map, List.length_range]; exact h
  · simp
theorem deeds_len {b : List Str} {m : Nat} (h : m ≤ 3) : (b.flatMap (deed1 m)).length ≤ 3 * b.length := by
  induction b with
  | nil => simp
  | cons w b ih =>
    rw [List.flatMap_cons, List.length_append, List.length_cons]
    have := deed1_len (m := m) (w := w) h
    omega
theorem book_at {b : List Str} {i : Nat} {d : D} (h : (b.map D.str)[i]? = some d) : ∃ w, b[i]? = some w ∧ d = .str w ∧ w ∈ b := by
  rw [List.getElem?_map] at h
  cases e : b[i]? with
  | none => rw [e] at h; cases h
  | some w => rw [e] at h; cases h; exact ⟨w, rfl, rfl, List.mem_of_getElem? e⟩
theorem h_deeds_of : ∀ ds n Q, ds.length = 2 → c_deeds_of ds n Q → wb_deeds_of { nx := fun _ n' => Q .non n', rt := Q } (startD ["book", "many", "deeds", "word", "letter"] ds) n := by
  rintro ds n Q - ⟨b, m, rfl, hb, m1, m3, hq⟩
  show wb_deeds_of _ [.val (bookD b), .val (.int m), .un, .un, .un] n
  have hbl := books_len b hb
  unfold wb_deeds_of; walk_at "w"
  refine ⟨by decide, ?_⟩
  unfold wb_deeds_of_2; walk_at "w"
  refine ⟨_, rfl, ?_⟩
  refine loop_inv (fun i ρ n' => n' = n ∧ ∃ x3 x4, ρ = [.val (bookD b), .val (.int m), .own ((b.take i).flatMap (deed1 m)), x3, x4]) ?_ ⟨rfl, _, _, rfl⟩ ?_
  · rintro i d ρ n' hd ⟨rfl, x3, x4, rfl⟩ NX hNX
    obtain ⟨w, hw, rfl, hwb⟩ := book_at hd
    have hw5 := books_w5 b hb w hwb
    have hlen := deeds_len (b := b.take i) m3
    have htl : (b.take i).length ≤ 4 := Nat.le_trans (List.length_take_le' _ _) hbl
    walk_at "w"
    unfold wb_deeds_of_1; walk_at "w"
    refine ⟨.str w, rfl, ok_w5 w hw5, ?_⟩
    rw [any_strs (d := .str w) rfl, str_puts]
    by_cases h2 : w ∈ puts
    · rw [if_pos (by simp [h2])]
      refine ⟨⟨by omega, by omega⟩, ?_⟩
      refine comp_map (fun i d => d = .tup [.str w, .int (i : Nat)]) 0 ?_ (by rw [rgD_len]; omega) ?_
      · intro j d n2 hd c1 c2 K2 hK2
        obtain ⟨hj, rfl⟩ := rgD_get hd
        walk_at "w"
        refine ⟨by decide, hK2 _ _ _ ?_ rfl (Nat.le_refl _) (by omega)⟩
        simp [dOf]
      · intro l n2 hl2 hP2 c1 c2
        rw [rgD_len] at hl2 c2
        have e := list_ext hl2 hP2
        have en : n2 = n' := by omega
        subst en
        have e1 : l = deed1 m w := by
          rw [e]; unfold deed1; rw [if_pos h2]; congr 1
        have hll : l.length ≤ 3 := by rw [e1]; exact deed1_len m3
        refine ⟨_, rfl, sz (by omega), ?_⟩
        rw [e1, ← flat_take hw]
        exact hNX _ _ ⟨rfl, _, _, rfl⟩
    · rw [if_neg (by simp [h2])]
      refine ⟨by decide, szl (by omega), ?_⟩
      have e1 : [D.tup [.str w]] = deed1 m w := by unfold deed1; rw [if_neg h2]
      rw [e1, ← flat_take hw]
      exact hNX _ _ ⟨rfl, _, _, rfl⟩
  · rintro ρ n' ⟨rfl, x3, x4, rfl⟩
    walk_at "w"
    rw [List.length_map, List.take_length]
    exact hq
theorem deeds_srt : ∀ b ∈ theBooks, ∀ m < 4, srtB (deedsL b m) = true := by decide +kernel
theorem deeds_up : ∀ b ∈ theBooks, ∀ m < 4, (deedsL b m).Pairwise (fun x y => leD x y = true) := by decide +kernel
theorem take_w : ∀ w ∈ W5, (w ∈ (["take left", "take right"] : List Str)) ↔ ¬ w ∈ puts := by decide +kernel
theorem h_law_deeds : ∀ ds n Q, ds.length = 2 → c_law_deeds ds n Q → wb_law_deeds { nx := fun _ n' => Q .non n', rt := Q } (startD ["book", "many", "found", "word", "letter"] ds) n := by
  rintro ds n Q - ⟨b, m, rfl, hb, m1, m3, hq⟩
  show wb_law_deeds _ [.val (bookD b), .val (.int m), .un, .un, .un] n
  have hbl := books_len b hb
  unfold wb_law_deeds; walk_at "w"
  refine ⟨by decide, ?_⟩
  unfold wb_law_deeds_3; walk_at "w"
  refine ⟨_, rfl, ?_⟩
  refine loop_inv (fun i ρ n' => n' = n ∧ ∃ x3 x4, ρ = [.val (bookD b), .val (.int m), .own ((b.take i).flatMap (deed1 m)), x3, x4]) ?_ ⟨rfl, _, _, rfl⟩ ?_
  · rintro i d ρ n' hd ⟨rfl, x3, x4, rfl⟩ NX hNX
    obtain ⟨w, hw, rfl, hwb⟩ := book_at hd
    have hw5 := books_w5 b hb w hwb
    have hlen := deeds_len (b := b.take i) m3
    have htl : (b.take i).length ≤ 4 := Nat.le_trans (List.length_take_le' _ _) hbl
    walk_at "w"
    unfold wb_law_deeds_1; walk_at "w"
    refine ⟨by decide, ?_⟩
    refine gIn_strs (ss := ["take left", "take right"]) (p := .str w) rfl (ok_w5 w hw5) rfl (by decide +kernel) ?_
    refine ⟨_, rfl, ?_⟩
    change if (xor false (decide (w ∈ _))) = true then _ else _
    by_cases h2 : w ∈ puts
    · rw [if_neg (by simp only [take_w w hw5, h2]; decide)]
      refine ⟨⟨by omega, by omega⟩, ?_⟩
      refine comp_map (fun i d => d = .tup [.str w, .int (i : Nat)]) 0 ?_ (by rw [rgD_len]; omega) ?_
      · intro j d n2 hd c1 c2 K2 hK2
        obtain ⟨hj, rfl⟩ := rgD_get hd
        walk_at "w"
        refine ⟨by decide, hK2 _ _ _ ?_ rfl (Nat.le_refl _) (by omega)⟩
        simp [dOf]
      · intro l n2 hl2 hP2 c1 c2
        rw [rgD_len] at hl2 c2
        have e := list_ext hl2 hP2
        have en : n2 = n' := by omega
        subst en
        have e1 : l = deed1 m w := by
          rw [e]; unfold deed1; rw [if_pos h2]; congr 1
        have hll : l.length ≤ 3 := by rw [e1]; exact deed1_len m3
        refine ⟨_, rfl, sz (by omega), ?_⟩
        rw [e1, ← flat_take hw]
        exact hNX _ _ ⟨rfl, _, _, rfl⟩
    · rw [if_pos (by simp only [take_w w hw5, h2]; decide)]
      refine ⟨by decide, szl (by omega), ?_⟩
      have e1 : [D.tup [.str w]] = deed1 m w := by unfold deed1; rw [if_neg h2]
      rw [e1, ← flat_take hw]
      exact hNX _ _ ⟨rfl, _, _, rfl⟩
  · rintro ρ n' ⟨rfl, x3, x4, rfl⟩
    unfold wb_law_deeds_2; walk_at "w"
    rw [List.length_map, List.take_length]
    exact gSorted_of rfl (deeds_srt b hb m (by omega)) (sortD_eq (deeds_up b hb m (by omega))) hq
end Ly.K12

namespace Ly.K12
open PySem PySem.Spec PyProof.Rows L2
local macro_rules | `(tactic| walk_at "w") => `(tactic| try simp only [wRet, wRetN, wAndV, wOrV, wNotV, wCB, wCons, wNil, wV, wC, wChain, wTst, wTNot, wTAnd, wTOr, wIf, wOp, wIxN, wIx, wTup, wLst, wLenN, wSeq, wSkip, wIfS, wSet, wAsg, wgTup_iff, wgCons_iff, wgNil_iff, wgN, wCall, wCall0, wPar2, wPar3, wSl, woN, woS, wNeg, wDrop, wDct, wDct1, wListR1, wFor, wiR1, wiR2, wiSeq, wiEn, wiZip, wLc, wYes, wApp, wPop, wgIx,
  gIsi_iff, gLen_iff, gTuple_iff, gList_iff, gAll_iff, gI_iff, gAbs_iff, gMM_iff, gInt_iff, gEq_int, gEq_str, gEq_emp, listOf, gAdd_int, gAdd_tup, gAdd_lst, gAdd_lstN, gAdd_Nlst, gAdd_new, gMul_int, gMul_tup, gIsN_iff, gSl_tup, gSl_lst, gSl_new, sqL, sqT, sqN, ssL, ssT, ssO, dOf_val, dOf_new, svOf_val, svOf_new, kI_non, kI_bl, kI_int, kI_str, kI_tup, kI_lst, kI_dct, kI_dc0, kB_non, kB_bl, kB_int, kB_str, kB_tup, kB_lst, kB_dct, kB_dc0, kT_non, kT_bl, kT_int, kT_str, kT_tup, kT_lst, kT_dct, kT_dc0, kS_non, kS_bl, kS_int, kS_str, kS_tup, kS_lst, kS_dct, kS_dc0, wipeD,
  List.getElem?_cons_zero, List.getElem?_cons_succ, List.getElem?_nil, List.set_cons_zero, List.set_cons_succ, List.map_cons, List.map_nil, List.length_cons, List.length_nil, RV.val.injEq, RV.new.injEq, D.bl.injEq, D.int.injEq, D.str.injEq, D.tup.injEq, D.lst.injEq, SV.val.injEq, SV.own.injEq, Option.some.injEq, exists_eq_left', exists_eq_left, exists_and_left, exists_eq_right, true_and, and_true, Bool.not_true, Bool.not_false, Bool.false_eq_true, if_true, if_false, reduceIte, ite_self, Bool.true_xor, Bool.false_xor, Bool.not_eq_true', decide_eq_true_eq, List.cons.injEq, isNon, exists_eq, exists_eq', at0, at1, mvD_len, tlD_len, rowD_def, wDNew, wDGet, wDIn, wDPut, wDOne, wAugI, wTry, wRaise, wCallX, wInG, wExt, wCallK, wDc0, pick, List.filterMap_cons, List.filterMap_nil, isOwnD, SV.ownD.injEq, svOf_newD, key_pair])
def W4 : List Str := ["put left", "put right", "take left", "take right"]
def bits (i k : Nat) : List Str := ((List.range i).filter fun j => k / 2 ^ j % 2 == 1).map fun j => W4.getD j ""
def found (i : Nat) : List (List Str) := ["slide"] :: (List.range i).map (bits 4)
theorem found_perm : theBooks.Perm (found 16) := by decide +kernel
theorem found_srt : srtB ((found 16).map bookD) = true := by decide +kernel
theorem books_up : (theBooks.map bookD).Pairwise (fun x y => leD x y = true) := by decide +kernel
theorem books_anti : ∀ x ∈ theBooks, ∀ y ∈ theBooks, leD (bookD x) (bookD y) = true → leD (bookD y) (bookD x) = true → x = y := by decide +kernel
theorem found_sorted : sortD ((found 16).map bookD) = theBooks.map bookD := by
  refine sortD_of (found_perm.map bookD) books_up fun x hx y hy h1 h2 => ?_
  obtain ⟨a, ha, rfl⟩ := List.mem_map.mp hx
  obtain ⟨b, hb, rfl⟩ := List.mem_map.mp hy
  rw [books_anti a ha b hb h1 h2]
theorem bits_succ {i k : Nat} : bits (i + 1) k = if k / 2 ^ i % 2 = 1 then bits i k ++ [W4.getD i ""] else bits i k := by
  unfold bits
  rw [List.range_succ, List.filter_append, List.map_append]
  by_cases h : k / 2 ^ i % 2 = 1
  · rw [if_pos h]; simp [h]
  · rw [if_neg h]; simp [h]
theorem bits_len {i k : Nat} : (bits i k).length ≤ i := by
  unfold bits
  rw [List.length_map]
  exact Nat.le_trans (List.length_filter_le _ _) (by rw [List.length_range]; exact Nat.le_refl _)
theorem h_law_books : ∀ ds n Q, ds.length = 0 → c_law_books ds n Q → wb_law_books { nx := fun _ n' => Q .non n', rt := Q } (startD ["found", "number", "spot", "word"] ds) n := by
  rintro ds n Q - ⟨rfl, hq⟩
  show wb_law_books _ [.un, .un, .un, .un] n
  unfold wb_law_books; walk_at "w"
  refine ⟨by decide, by decide, ?_⟩
  unfold wb_law_books_3; walk_at "w"
  refine ⟨by decide, ?_⟩
  refine loop_inv (fun i ρ n' => n' = n ∧ ∃ x1, ρ = [.own ((found i).map bookD), x1, .un, .un]) ?_ ⟨rfl, _, rfl⟩ ?_
  · rintro i d ρ n' hd ⟨rfl, x1, rfl⟩ NX hNX
    obtain ⟨hi, rfl⟩ := rgD_get hd
    walk_at "w"
    unfold wb_law_books_1; walk_at "w"
    refine ⟨rfl, ?_⟩
    refine ⟨_, rfl, ?_⟩
    rw [Int.zero_add]
    have hi' : i < 16 := by omega
    refine comp_inv (fun j acc ρ n2 => n2 = n' ∧ acc = (bits j i).map .str ∧ ρ = [.own ((found i).map bookD), .val (.int (i : Nat)), .un, .un]) ?_ ⟨rfl, rfl, rfl⟩ ?_
    · rintro j d acc ρ n2 hd ⟨rfl, rfl, rfl⟩ K hK
      have step : ∀ (e : Int) (s : Str), d = .tup [.int (j : Nat), .str s] → atI [D.int 1, .int 2, .int 4, .int 8] (j : Nat) = some (.int e) → e = ((2 ^ j : Nat) : Int) → s = W4.getD j "" →
          wgTup 2 (wgCons (wgN 2) (wgCons (wgN 3) wgNil)) (RV.val d) [.own ((found i).map bookD), .val (.int (i : Nat)), .un, .un] n2 fun ρ1 n1 =>
          (wTst (wOp (gEq false) (wOp gMod (wOp gDiv (wV 1) (wIx (wLst (wCons (wC (D.int 1)) (wCons (wC (D.int 2)) (wCons (wC (D.int 4)) (wCons (wC (D.int 8)) wNil))))) (wV 2))) (wC (D.int 2))) (wC (D.int 1)))) ρ1 n1 fun b ρ2 n2 =>
          if b = true then wV 3 ρ2 n2 fun r ρ3 n3 => ((bits j i).map D.str).length < sizeLine ∧ K ((bits j i).map .str ++ [dOf r]) (wipeD ρ3 [2, 3]) n3 else K ((bits j i).map .str) (wipeD ρ2 [2, 3]) n2 := by
        rintro e s rfl he rfl rfl
        walk_at "w"
        refine ⟨by decide, _, he, ?_⟩
        unfold gDiv gMod
        walk_at "w"
        have hj4 : j ≤ 4 := by
          obtain ⟨x, hx, _⟩ := enD_get hd
          have := (List.getElem?_eq_some_iff.mp hx).1
          simp at this; omega
        have pw : 2 ^ j ≤ 2 ^ 4 := Nat.pow_le_pow_right (by decide) hj4
        have pz : 0 < 2 ^ j := Nat.two_pow_pos j
        have ec : ((((i : Nat) : Int).fdiv ((2 ^ j : Nat) : Int)).fmod 2 = 1) ↔ i / 2 ^ j % 2 = 1 := by
          rw [fdivN, show (2 : Int) = ((2 : Nat) : Int) from rfl, fmodN]
          omega
        refine ⟨⟨by omega, by omega⟩, by decide, ?_⟩
        have hbl := bits_len (i := j) (k := i)
        by_cases h : i / 2 ^ j % 2 = 1
        · rw [if_pos (ec.mpr h)]
          refine ⟨szl (by rw [List.length_map]; omega), hK _ _ _ ⟨rfl, ?_, rfl⟩⟩
          rw [bits_succ, if_pos h, List.map_append]; rfl
        · rw [if_neg (fun z => h (ec.mp z))]
          refine hK _ _ _ ⟨rfl, ?_, rfl⟩
          rw [bits_succ, if_neg h]
      obtain ⟨x, hx, rfl⟩ := enD_get hd
      have hj4 : j < 4 := (List.getElem?_eq_some_iff.mp hx).1
      rw [Nat.zero_add]
      rw [Nat.zero_add] at step
      match j, hj4, hx, step with
      | 0, _, hx, step => cases hx; exact step 1 _ rfl rfl rfl rfl
      | 1, _, hx, step => cases hx; exact step 2 _ rfl rfl rfl rfl
      | 2, _, hx, step => cases hx; exact step 4 _ rfl rfl rfl rfl
      | 3, _, hx, step => cases hx; exact step 8 _ rfl rfl rfl rfl
    · rintro acc ρ n2 ⟨rfl, rfl, rfl⟩
      refine ⟨_, rfl, szl (by rw [List.length_map]; simp [found]; omega), ?_⟩
      have e1 : (found i).map bookD ++ [.tup ((bits 4 i).map .str)] = (found (i + 1)).map bookD := by
        unfold found
        rw [List.range_succ, List.map_append, List.map_cons, List.map_cons, List.map_append, List.cons_append]
        rfl
      have e2 := hNX _ _ (⟨rfl, .val (.int (i : Nat)), rfl⟩ : n2 = n2 ∧ ∃ x1, [SV.own ((found (i + 1)).map bookD), .val (.int (i : Nat)), .un, .un] = [SV.own ((found (i + 1)).map bookD), x1, .un, .un])
      rw [← e1] at e2
      exact e2
  · rintro ρ n' ⟨rfl, x1, rfl⟩
    unfold wb_law_books_2; walk_at "w"
    rw [rgD_len]
    exact gSorted_of rfl found_srt found_sorted hq
end Ly.K12

namespace Ly.K12
open PySem PySem.Spec PyProof.Rows L2
local macro_rules | `(tactic| walk_at "w") => `(tactic| try simp only [wRet, wRetN, wAndV, wOrV, wNotV, wCB, wCons, wNil, wV, wC, wChain, wTst, wTNot, wTAnd, wTOr, wIf, wOp, wIxN, wIx, wTup, wLst, wLenN, wSeq, wSkip, wIfS, wSet, wAsg, wgTup_iff, wgCons_iff, wgNil_iff, wgN, wCall, wCall0, wPar2, wPar3, wSl, woN, woS, wNeg, wDrop, wDct, wDct1, wListR1, wFor, wiR1, wiR2, wiSeq, wiEn, wiZip, wLc, wYes, wApp, wPop, wgIx,
  gIsi_iff, gLen_iff, gTuple_iff, gList_iff, gAll_iff, gI_iff, gAbs_iff, gMM_iff, gInt_iff, gEq_int, gEq_str, gEq_emp, listOf, gAdd_int, gAdd_tup, gAdd_lst, gAdd_lstN, gAdd_Nlst, gAdd_new, gMul_int, gMul_tup, gIsN_iff, gSl_tup, gSl_lst, gSl_new, sqL, sqT, sqN, ssL, ssT, ssO, dOf_val, dOf_new, svOf_val, svOf_new, kI_non, kI_bl, kI_int, kI_str, kI_tup, kI_lst, kI_dct, kI_dc0, kB_non, kB_bl, kB_int, kB_str, kB_tup, kB_lst, kB_dct, kB_dc0, kT_non, kT_bl, kT_int, kT_str, kT_tup, kT_lst, kT_dct, kT_dc0, kS_non, kS_bl, kS_int, kS_str, kS_tup, kS_lst, kS_dct, kS_dc0, wipeD,
  List.getElem?_cons_zero, List.getElem?_cons_succ, List.getElem?_nil, List.set_cons_zero, List.set_cons_succ, List.map_cons, List.map_nil, List.length_cons, List.length_nil, RV.val.injEq, RV.new.injEq, D.bl.injEq, D.int.injEq, D.str.injEq, D.tup.injEq, D.lst.injEq, SV.val.injEq, SV.own.injEq, Option.some.injEq, exists_eq_left', exists_eq_left, exists_and_left, exists_eq_right, true_and, and_true, Bool.not_true, Bool.not_false, Bool.false_eq_true, if_true, if_false, reduceIte, ite_self, Bool.true_xor, Bool.false_xor, Bool.not_eq_true', decide_eq_true_eq, List.cons.injEq, isNon, exists_eq, exists_eq', at0, at1, mvD_len, tlD_len, rowD_def, wDNew, wDGet, wDIn, wDPut, wDOne, wAugI, wTry, wRaise, wCallX, wInG, wExt, wCallK, wDc0, pick, List.filterMap_cons, List.filterMap_nil, isOwnD, SV.ownD.injEq, svOf_newD, key_pair])
theorem deeds_form : ∀ b ∈ theBooks, ∀ m < 4, ∀ d ∈ deedsL b m, shRB 1 100 d = true := by decide +kernel
theorem deed_form {b : List Str} {m : Nat} {d : D} (hb : b ∈ theBooks) (hm : m ≤ 3) (hd : d ∈ deedsL b m) : ∃ w l, d = .tup (.str w :: l) ∧ w ∈ W5 ∧ w ∈ b ∧ rightLen w l = true ∧ letterOk w l (m : Int) = true ∧ Vd d := by
  have hs := deeds_form b hb m (by omega) d hd
  obtain ⟨w, hw, h⟩ := List.mem_flatMap.mp hd
  have hw5 := books_w5 b hb w hw
  unfold deed1 at h
  by_cases h2 : w ∈ puts
  · rw [if_pos h2] at h
    obtain ⟨k, hk, rfl⟩ := List.mem_map.mp h
    rw [List.mem_range] at hk
    refine ⟨w, [.int (k : Nat)], rfl, hw5, hw, by simp [rightLen, h2], ?_, ⟨(shR_of hs).mono (by decide) (by decide), ?_, ⟨true, kT_tup⟩⟩⟩
    · have e1 : letterOk w [.int (k : Nat)] (m : Int) = (!decide (w ∈ puts) || (decide ((0 : Int) ≤ (k : Nat)) && decide (((k : Nat) : Int) ≤ (m : Int) - 1))) := rfl
      rw [e1, decide_eq_true (by omega : (0 : Int) ≤ (k : Nat)), decide_eq_true (by omega : ((k : Nat) : Int) ≤ (m : Int) - 1)]
      simp
    · intro l e
      cases e
      refine ⟨by simp, fun d hd => ?_⟩
      simp at hd
      rcases hd with rfl | rfl
      · exact ⟨.str w, .str w, rfl, ok_w5 w hw5⟩
      · exact ⟨.int _, .int _, rfl, rfl⟩
  · rw [if_neg h2] at h
    simp at h
    subst h
    refine ⟨w, [], rfl, hw5, hw, by simp [rightLen, h2], by simp [letterOk, h2], ⟨(shR_of hs).mono (by decide) (by decide), ?_, ⟨true, kT_tup⟩⟩⟩
    intro l e
    cases e
    refine ⟨by simp, fun d hd => ?_⟩
    simp at hd
    subst hd
    exact ⟨.str w, .str w, rfl, ok_w5 w hw5⟩
def opn (r : List Int) (d : D) : Bool := !r.isEmpty || decide (firstW d ∈ (["put left", "put right"] : List Str))
theorem put_w : ∀ w ∈ W5, (w ∈ (["put left", "put right"] : List Str)) ↔ ¬ w ∈ takes := by decide +kernel
theorem derr_opn {b : List Str} {m : Nat} {r : List Int} {d : D} (hb : b ∈ theBooks) (hm : m ≤ 3) (hd : d ∈ deedsL b m) : derr b m r d = if opn r d = true then .non else .str "empty" := by
  obtain ⟨w, l, rfl, h1, h2, h3, h4, _⟩ := deed_form hb hm hd
  unfold derr
  dsimp only
  rw [if_pos ⟨h1, h3⟩, if_neg (by rw [h4]; decide), if_neg (fun z => z h2)]
  have e := put_w w h1
  have ef : firstW (.tup (.str w :: l)) = w := rfl
  unfold opn
  rw [ef]
  by_cases h5 : w ∈ takes
  · by_cases h6 : r = []
    · subst h6
      rw [if_pos ⟨h5, rfl⟩, if_neg (by simp only [e, h5]; decide)]
    · rw [if_neg (fun z => h6 z.2), if_pos (by cases r with | nil => exact absurd rfl h6 | cons _ _ => rfl)]
  · rw [if_neg (fun z => h5 z.1), if_pos (by rw [decide_eq_true (e.mpr h5), Bool.or_true])]
theorem filter_succ {α : Type} {l : List α} {p : α → Bool} {i : Nat} {x : α} (h : l[i]? = some x) : (l.take (i + 1)).filter p = if p x = true then (l.take i).filter p ++ [x] else (l.take i).filter p := by
  rw [List.take_add_one, h, List.filter_append]
  by_cases hp : p x = true
  · rw [if_pos hp]; simp [hp]
  · rw [if_neg hp]; simp [hp]
theorem filter_len {α : Type} {l : List α} {p : α → Bool} {i : Nat} : ((l.take i).filter p).length ≤ l.length := Nat.le_trans (List.length_filter_le _ _) (List.length_take_le' _ _)
theorem h_law_open : ∀ ds n Q, ds.length = 3 → c_law_open ds n Q → wb_law_open { nx := fun _ n' => Q .non n', rt := Q } (startD ["book", "many", "row", "deed"] ds) n := by
  rintro ds n Q - ⟨b, m, r, rfl, hb, m1, m3, hq⟩
  show wb_law_open _ [.val (bookD b), .val (.int m), .val (rowD r), .un] n
  have hbl := books_len b hb
  have hdl : (deedsL b m).length ≤ 12 := Nat.le_trans (deeds_len m3) (by omega)
  unfold wb_law_open; walk_at "w"
  refine ⟨b, m, rfl, hb, m1, m3, ?_⟩
  refine ⟨_, rfl, ?_⟩
  refine comp_inv (fun j acc ρ n2 => n2 = n ∧ acc = ((deedsL b m).take j).filter (opn r) ∧ ρ = [.val (bookD b), .val (.int m), .val (rowD r), .un]) ?_ ⟨rfl, rfl, rfl⟩ ?_
  · rintro j d acc ρ n2 hd ⟨rfl, rfl, rfl⟩ K hK
    obtain ⟨w, l, rfl, h1, h2, h3, h4, _⟩ := deed_form hb m3 (List.mem_of_getElem? hd)
    have hfl := filter_len (l := deedsL b m) (p := opn r) (i := j)
    have fin : ∀ z, z = opn r (.tup (.str w :: l)) → if z = true then (((deedsL b m).take j).filter (opn r)).length < sizeLine ∧ K (((deedsL b m).take j).filter (opn r) ++ [.tup (.str w :: l)]) [.val (bookD b), .val (.int m), .val (rowD r), .un] n2 else K (((deedsL b m).take j).filter (opn r)) [.val (bookD b), .val (.int m), .val (rowD r), .un] n2 := by
      rintro z rfl
      by_cases hz : opn r (.tup (.str w :: l)) = true
      · rw [if_pos hz]
        exact ⟨szl (by omega), hK _ _ _ ⟨rfl, by rw [filter_succ hd, if_pos hz], rfl⟩⟩
      · rw [if_neg hz]
        exact hK _ _ _ ⟨rfl, by rw [filter_succ hd, if_neg hz], rfl⟩
    walk_at "w"
    refine ⟨by decide, ?_⟩
    refine gEq_row (r := r) ?_
    refine ⟨_, rfl, ?_⟩
    have ef : firstW (.tup (.str w :: l)) = w := rfl
    cases hr : r with
    | cons x r' =>
      rw [if_pos (by simp)]
      have := fin true (by rw [hr]; rfl)
      rw [if_pos rfl] at this
      rw [hr] at this
      exact this
    | nil =>
      rw [if_neg (by simp)]
      refine ⟨by decide, ?_⟩
      refine gIn_strs (ss := ["put left", "put right"]) (p := .str w) rfl (ok_w5 w h1) rfl (by decide +kernel) ?_
      refine ⟨_, rfl, ?_⟩
      have := fin (xor false (isStrIn ["put left", "put right"] (.str w))) (by
        rw [hr]
        unfold opn
        rw [ef]
        show xor false (decide (w ∈ (["put left", "put right"] : List Str))) = (!true || decide (w ∈ (["put left", "put right"] : List Str)))
        simp)
      rw [hr] at this
      exact this
  · rintro acc ρ n2 ⟨rfl, rfl, rfl⟩
    rw [List.take_length]
    exact hq
theorem h_open_deeds : ∀ ds n Q, ds.length = 3 → c_open_deeds ds n Q → wb_open_deeds { nx := fun _ n' => Q .non n', rt := Q } (startD ["book", "many", "row", "deed"] ds) n := by
  rintro ds n Q - ⟨b, m, r, rfl, hb, m1, m3, hq⟩
  show wb_open_deeds _ [.val (bookD b), .val (.int m), .val (rowD r), .un] n
  have hbl := books_len b hb
  have hdl : (deedsL b m).length ≤ 12 := Nat.le_trans (deeds_len m3) (by omega)
  unfold wb_open_deeds; walk_at "w"
  refine ⟨b, m, rfl, hb, m1, m3, ?_⟩
  refine ⟨_, rfl, ?_⟩
  refine comp_inv (fun j acc ρ n2 => n2 = n ∧ acc = ((deedsL b m).take j).filter (opn r) ∧ ρ = [.val (bookD b), .val (.int m), .val (rowD r), .un]) ?_ ⟨rfl, rfl, rfl⟩ ?_
  · rintro j d acc ρ n2 hd ⟨rfl, rfl, rfl⟩ K hK
    have hm := List.mem_of_getElem? hd
    obtain ⟨w, l, hdw, h1, h2, h3, h4, hv⟩ := deed_form hb m3 hm
    have hfl := filter_len (l := deedsL b m) (p := opn r) (i := j)
    walk_at "w"
    refine ⟨b, m, r, d, rfl, hb, hv, ?_⟩
    rw [derr_opn hb m3 hm]
    by_cases hz : opn r d = true
    · rw [if_pos hz]
      exact (if_pos rfl).mpr ⟨szl (by omega), hK _ _ _ ⟨rfl, by rw [filter_succ hd, if_pos hz], rfl⟩⟩
    · rw [if_neg hz]
      exact (if_neg (fun z => by cases z)).mpr (hK _ _ _ ⟨rfl, by rw [filter_succ hd, if_neg hz], rfl⟩)
  · rintro acc ρ n2 ⟨rfl, rfl, rfl⟩
    rw [List.take_length]
    exact hq
end Ly.K12

namespace Ly.K12
open PySem PySem.Spec PyProof.Rows L2
local macro_rules | `(tactic| walk_at "w") => `(tactic| try simp only [wRet, wRetN, wAndV, wOrV, wNotV, wCB, wCons, wNil, wV, wC, wChain, wTst, wTNot, wTAnd, wTOr, wIf, wOp, wIxN, wIx, wTup, wLst, wLenN, wSeq, wSkip, wIfS, wSet, wAsg, wgTup_iff, wgCons_iff, wgNil_iff, wgN, wCall, wCall0, wPar2, wPar3, wSl, woN, woS, wNeg, wDrop, wDct, wDct1, wListR1, wFor, wiR1, wiR2, wiSeq, wiEn, wiZip, wLc, wYes, wApp, wPop, wgIx,
  gIsi_iff, gLen_iff, gTuple_iff, gList_iff, gAll_iff, gI_iff, gAbs_iff, gMM_iff, gInt_iff, gEq_int, gEq_str, gEq_emp, listOf, gAdd_int, gAdd_tup, gAdd_lst, gAdd_lstN, gAdd_Nlst, gAdd_new, gMul_int, gMul_tup, gIsN_iff, gSl_tup, gSl_lst, gSl_new, sqL, sqT, sqN, ssL, ssT, ssO, dOf_val, dOf_new, svOf_val, svOf_new, kI_non, kI_bl, kI_int, kI_str, kI_tup, kI_lst, kI_dct, kI_dc0, kB_non, kB_bl, kB_int, kB_str, kB_tup, kB_lst, kB_dct, kB_dc0, kT_non, kT_bl, kT_int, kT_str, kT_tup, kT_lst, kT_dct, kT_dc0, kS_non, kS_bl, kS_int, kS_str, kS_tup, kS_lst, kS_dct, kS_dc0, wipeD,
  List.getElem?_cons_zero, List.getElem?_cons_succ, List.getElem?_nil, List.set_cons_zero, List.set_cons_succ, List.map_cons, List.map_nil, List.length_cons, List.length_nil, RV.val.injEq, RV.new.injEq, D.bl.injEq, D.int.injEq, D.str.injEq, D.tup.injEq, D.lst.injEq, SV.val.injEq, SV.own.injEq, Option.some.injEq, exists_eq_left', exists_eq_left, exists_and_left, exists_eq_right, true_and, and_true, Bool.not_true, Bool.not_false, Bool.false_eq_true, if_true, if_false, reduceIte, ite_self, Bool.true_xor, Bool.false_xor, Bool.not_eq_true', decide_eq_true_eq, List.cons.injEq, isNon, exists_eq, exists_eq', at0, at1, mvD_len, tlD_len, rowD_def, wDNew, wDGet, wDIn, wDPut, wDOne, wAugI, wTry, wRaise, wCallX, wInG, wExt, wCallK, wDc0, pick, List.filterMap_cons, List.filterMap_nil, isOwnD, SV.ownD.injEq, svOf_newD, key_pair])
def plA : D → Bool
  | .non => true
  | .bl _ => true
  | .int _ => true
  | .str _ => true
  | _ => false
def plB : D → Bool
  | .tup l => decide (l.length ≤ 1000) && l.all plA
  | .lst l => decide (l.length ≤ 1000) && l.all plA
  | d => plA d
theorem plA_of {d : D} (h : plA d = true) : Pl d := by
  cases d <;> first | (constructor; done) | (exact absurd h (by decide)) | (simp [plA] at h)
theorem plB_of {d : D} (h : plB d = true) : Pl d := by
  cases d with
  | tup l =>
    simp only [plB, Bool.and_eq_true, decide_eq_true_eq, List.all_eq_true] at h
    exact .tup h.1 fun x hx => plA_of (h.2 x hx)
  | lst l =>
    simp only [plB, Bool.and_eq_true, decide_eq_true_eq, List.all_eq_true] at h
    exact .lst h.1 fun x hx => plA_of (h.2 x hx)
  | _ => exact plA_of h
def itB (d : D) : Bool := plB d && (match toPy d with | some p => SeqAt.shaped p | none => false)
def vdB (v : D) : Bool := shRB 3 300 v && ((match v with | .tup l => decide (l.length ≤ 10) && l.all itB | _ => true) && (isiB v "tuple").isSome)
theorem itB_of {d : D} (h : itB d = true) : Pl d ∧ ∃ p, toPy d = some p ∧ SeqAt.shaped p = true := by
  unfold itB at h
  rw [Bool.and_eq_true] at h
  refine ⟨plB_of h.1, ?_⟩
  cases e : toPy d with
  | none => rw [e] at h; exact absurd h.2 (by decide)
  | some p => rw [e] at h; exact ⟨p, rfl, h.2⟩
theorem vd_of {v : D} (h : vdB v = true) : Vd v := by
  unfold vdB at h
  rw [Bool.and_eq_true, Bool.and_eq_true] at h
  refine ⟨shR_of h.1, fun l e => ?_, Option.isSome_iff_exists.mp h.2.2⟩
  subst e
  have h2 := h.2.1
  simp only [Bool.and_eq_true, decide_eq_true_eq, List.all_eq_true] at h2
  exact ⟨h2.1, fun d hd => itB_of (h2.2 d hd)⟩
def oddL (k : Int) (w : Str) (m : Int) : List D :=
  [.non, .tup [], .lst [.str w, .int k], .tup [.str w, .int k, .int k], .tup [.str w, .int m], .tup [.str w, .bl true], .tup [.str w, .int (-1)], .tup [.str w, .non]] ++ [.str "take left", .tup [.str "put", .int k], .tup [.int k, .str w], .tup [.tup [.str w], .int k], .tup [.str w, .tup [.int k]]] ++
  [.tup [.str w, .str (toString k)], .tup [.str "Take left"], .tup [.str "take left "], .tup [.non], .dc0, .int 0, .tup [.bl true, .int k], .tup [.lst [.str w]]] ++ [.tup [.str (w ++ " " ++ toString k)]]
def rightL (k : Int) : List D := [.tup [.str "take left"], .tup [.str "take right"], .tup [.str "put left", .int k], .tup [.str "put right", .int k], .tup [.str "slide", .int k]] ++ [.tup [.str "take left", .int k], .tup [.str "put left"], .tup [.str "slide"]]
def K3 : List Int := [0, 1, 2]
theorem odd_vd : ∀ k ∈ K3, ∀ w ∈ W5, ∀ m ∈ ([1, 2, 3] : List Int), ∀ v ∈ oddL k w m, vdB v = true := by decide +kernel
theorem right_vd : ∀ k ∈ K3, ∀ v ∈ rightL k, vdB v = true := by decide +kernel
theorem k3_of {k : Int} (h : 0 ≤ k) (h2 : k < 3) : k ∈ K3 := by
  have : k = 0 ∨ k = 1 ∨ k = 2 := by omega
  simp [K3]; omega
theorem str_ok : ∀ k ∈ K3, ∀ w ∈ W5, (w.length + (" " : Str).length ≤ sizeLine) ∧ ((w ++ " " : Str).length + (toString k : Str).length ≤ sizeLine) := by decide +kernel
theorem h_law_odd_deeds : ∀ ds n Q, ds.length = 2 → c_law_odd_deeds ds n Q → wb_law_odd_deeds { nx := fun _ n' => Q .non n', rt := Q } (startD ["pot", "many", "odd", "right", "letter", "word"] ds) n := by
  rintro ds n Q - ⟨a, m, rfl, m1, m3, hbd, hr⟩
  show wb_law_odd_deeds _ [.val (.bag a), .val (.int m), .un, .un, .un, .un] n
  unfold wb_law_odd_deeds; walk_at "w"
  refine ⟨a, m, rfl, by omega, by omega, by omega, ?_⟩
  rintro _ n2 ⟨k, rfl, k0, k1⟩ c1 c2
  refine ⟨rfl, ?_⟩
  refine ⟨_, rfl, by decide, by decide, a, _, _, rfl, rfl, by decide, by decide, by omega, fun d n3 hd c3 c4 => ?_⟩
  obtain ⟨w, hw, rfl⟩ : ∃ w, w ∈ W5 ∧ d = .str w := by
    simp at hd
    rcases hd with h | h | h | h | h <;> exact ⟨_, by decide, h⟩
  refine ⟨_, _, ⟨rfl, rfl⟩, ?_⟩
  have hk3 := k3_of k0 (by omega)
  obtain ⟨s1, s2⟩ := str_ok k hk3 w hw
  have hkn : k.natAbs < 10 ^ 500 := by
    have : (10 : Nat) ^ 1 ≤ 10 ^ 500 := Nat.pow_le_pow_right (by decide) (by decide)
    omega
  unfold wb_law_odd_deeds_7; walk_at "w"
  repeat refine ⟨by decide, ?_⟩
  unfold wb_law_odd_deeds_6; walk_at "w"
  repeat refine ⟨by decide, ?_⟩
  unfold wb_law_odd_deeds_5; walk_at "w"
  refine ⟨k, rfl, hkn, ?_⟩
  repeat refine ⟨by decide, ?_⟩
  refine ⟨sz (by simp), ?_⟩
  unfold wb_law_odd_deeds_4; walk_at "w"
  refine ⟨s1, k, rfl, hkn, s2, by decide, by decide, sz (by simp), ?_⟩
  have e1 : [D.non, D.tup [], D.lst [D.str w, D.int k], D.tup [D.str w, D.int k, D.int k], D.tup [D.str w, D.int ↑m], D.tup [D.str w, D.bl true], D.tup [D.str w, D.int (-1)], D.tup [D.str w, D.non]] ++ [D.str (Str.ofString "take left"), D.tup [D.str (Str.ofString "put"), D.int k], D.tup [D.int k, D.str w], D.tup [D.tup [D.str w], D.int k], D.tup [D.str w, D.tup [D.int k]]] ++
      [D.tup [D.str w, D.str (Str.ofString (toString k))], D.tup [D.str (Str.ofString "Take left")], D.tup [D.str (Str.ofString "take left ")], D.tup [D.non], D.dc0, D.int 0, D.tup [D.bl true, D.int k], D.tup [D.lst [D.str w]]] ++ [.tup [.str (w ++ " " ++ toString k)]] = oddL k w m := rfl
  rw [show dOf (RV.val (.str (w ++ Str.ofString " " ++ Str.ofString (toString k)))) = .str (w ++ " " ++ toString k) from rfl, e1]
  have ol : (oddL k w m).length = 22 := rfl
  have ov := odd_vd k hk3 w hw m (by have : m = 1 ∨ m = 2 ∨ m = 3 := by omega
                                     rcases this with rfl | rfl | rfl <;> decide)
  generalize oddL k w m = ods at ol ov
  unfold wb_law_odd_deeds_3; walk_at "w"
  repeat refine ⟨by decide, ?_⟩
  unfold wb_law_odd_deeds_2; walk_at "w"
  repeat refine ⟨by decide, ?_⟩
  have e2 : [D.tup [D.str (Str.ofString "take left")], D.tup [D.str (Str.ofString "take right")], D.tup [D.str (Str.ofString "put left"), D.int k], D.tup [D.str (Str.ofString "put right"), D.int k], D.tup [D.str (Str.ofString "slide"), D.int k]] ++
      [D.tup [D.str (Str.ofString "take left"), D.int k], D.tup [D.str (Str.ofString "put left")], D.tup [D.str (Str.ofString "slide")]] = rightL k := rfl
  rw [e2]
  have rl : (rightL k).length = 8 := rfl
  have rv := right_vd k hk3
  generalize rightL k = rds at rl rv
  unfold wb_law_odd_deeds_1; walk_at "w"
  refine ⟨a, _, ods, rfl, rfl, by omega, by omega, by omega, fun d1 n4 hd1 c5 c6 => ?_⟩
  refine ⟨a, _, rds, rfl, rfl, by omega, by omega, by omega, fun d2 n5 hd2 c7 c8 => ?_⟩
  refine ⟨a, _, rds, rfl, rfl, by omega, by omega, by omega, fun d3 n6 hd3 c9 c10 => ?_⟩
  refine ⟨by decide, ?_⟩
  refine hr _ _ ⟨_, rfl, rfl, fun v hv => ?_⟩ (by omega) (by omega)
  simp only [List.mem_cons, List.not_mem_nil, or_false] at hv
  rcases hv with rfl | rfl | rfl
  · exact vd_of (ov _ hd1)
  · exact vd_of (rv _ hd2)
  · exact vd_of (rv _ hd3)
theorem h_law_start : ∀ ds n Q, ds.length = 3 → c_law_start ds n Q → wb_law_start { nx := fun _ n' => Q .non n', rt := Q } (startD ["pot", "book", "many", "way"] ds) n := by
  rintro ds n Q - ⟨a, b, m, rfl, hb, m1, m3, hbd, hr⟩
  show wb_law_start _ [.val (.bag a), .val (bookD b), .val (.int m), .un] n
  unfold wb_law_start; walk_at "w"
  refine ⟨a, 8, rfl, by omega, by omega, by omega, ?_⟩
  rintro _ n2 ⟨k, rfl, k0, k1⟩ c1 c2
  unfold wb_law_start_3; walk_at "w"
  split
  · exact ⟨by decide, hr _ _ ⟨[], rfl, by decide, fun x hx => by cases hx⟩ (by omega) (by omega)⟩
  · have rest : wb_law_start_1 { nx := fun x n' => Q D.non n', rt := Q } [SV.val (D.bag a), SV.val (bookD b), SV.val (D.int ↑m), SV.val (D.int k)] n2 := by
      unfold wb_law_start_1; walk_at "w"
      refine ⟨by decide, a, _, _, rfl, rfl, by decide, by decide, by omega, fun d n3 hd c3 c4 => ?_⟩
      simp only [List.mem_cons, List.not_mem_nil, or_false] at hd
      have : ∃ l : Nat, d = .int l ∧ l ≤ 40 := by
        rcases hd with rfl | rfl | rfl
        · exact ⟨1, rfl, by decide⟩
        · exact ⟨3, rfl, by decide⟩
        · exact ⟨40, rfl, by decide⟩
      obtain ⟨l, rfl, hl⟩ := this
      refine ⟨a, m, l, rfl, m1, m3, hl, by omega, ?_⟩
      rintro _ n4 ⟨r, rfl, r1, r2⟩ c5 c6
      exact hr _ _ ⟨r, rfl, by omega, r2⟩ (by omega) (by omega)
    have long : (0 + 1 + 1 + 1 + 1 ≤ sizeLine ∧ c_law_pick [D.bag a, D.lst [D.int 41, D.int 200, D.int 239, D.int 240]] n2 fun d n2 => c_law_letters [D.bag a, D.int ↑m, d] n2 fun d n2 => Q d n2) := by
      refine ⟨by decide, a, _, _, rfl, rfl, by decide, by decide, by omega, fun d n3 hd c3 c4 => ?_⟩
      simp only [List.mem_cons, List.not_mem_nil, or_false] at hd
      have : ∃ l : Nat, d = .int l ∧ l ≤ 240 := by
        rcases hd with rfl | rfl | rfl | rfl
        · exact ⟨41, rfl, by decide⟩
        · exact ⟨200, rfl, by decide⟩
        · exact ⟨239, rfl, by decide⟩
        · exact ⟨240, rfl, by decide⟩
      obtain ⟨l, rfl, hl⟩ := this
      refine ⟨a, m, l, rfl, m1, m3, hl, by omega, ?_⟩
      rintro _ n4 ⟨r, rfl, r1, r2⟩ c5 c6
      exact hr _ _ ⟨r, rfl, by omega, r2⟩ (by omega) (by omega)
    unfold wb_law_start_2; walk_at "w"
    split
    · refine gIn_strs (p := .str "put left") rfl (by decide +kernel) rfl (ok_books b hb) ?_
      refine ⟨_, rfl, ?_⟩
      split
      · exact long
      · refine gIn_strs (p := .str "put right") rfl (by decide +kernel) rfl (ok_books b hb) ?_
        refine ⟨_, rfl, ?_⟩
        split
        · exact long
        · exact rest
    · exact rest
theorem row_shR {r : List Int} (h : ∀ x ∈ r, 0 ≤ x ∧ x < 10) : ShR 1 (r.length * 4 + 2) (rowD r) := by
  have := shR_tup (k := 0) (b := 2) (l := r.map .int) (fun d hd => by
    obtain ⟨c, hc, rfl⟩ := List.mem_map.mp hd
    exact shR_int (k := 1) (by decide) (by decide) (by have := h c hc; omega))
  rw [List.length_map] at this
  exact this
theorem book_shR : ∀ b ∈ theBooks, shRB 1 200 (bookD b) = true := by decide +kernel
theorem derr_shR {b : List Str} {m : Int} {r : List Int} {v : D} : ShR 0 20 (derr b m r v) := by
  have all : ∀ d : D, d = .str "form" ∨ d = .str "letter" ∨ d = .str "book" ∨ d = .str "empty" ∨ d = .non → ShR 0 20 d := by
    rintro d (rfl | rfl | rfl | rfl | rfl) <;> exact shR_of (by decide +kernel)
  refine all _ ?_
  unfold derr
  split
  · split
    · split
      · exact .inr (.inl rfl)
      · split
        · exact .inr (.inr (.inl rfl))
        · split
          · exact .inr (.inr (.inr (.inl rfl)))
          · exact .inr (.inr (.inr (.inr rfl)))
    · exact .inl rfl
  · exact .inl rfl
theorem h_law_is_told : ∀ ds n Q, ds.length = 4 → c_law_is_told ds n Q → wb_law_is_told { nx := fun _ n' => Q .non n', rt := Q } (startD ["book", "many", "row", "value", "kept", "said"] ds) n := by
  rintro ds n Q - ⟨b, m, r, v, rfl, hb, hrl, hrx, hv, hq⟩
  show wb_law_is_told _ [.val (bookD b), .val (.int m), .val (rowD r), .val v, .un, .un] n
  have s1 := shR_of (book_shR b hb)
  have s2 := row_shR hrx
  have s3 : ShR 4 (3 * (1000 + 2) + 2) (.lst [bookD b, rowD r, v]) := shR_lst (k := 3) (b := 1000) fun d hd => by
    simp only [List.mem_cons, List.not_mem_nil, or_false] at hd
    rcases hd with rfl | rfl | rfl
    · exact s1.mono (by decide) (by decide)
    · exact s2.mono (by decide) (by omega)
    · exact hv.sh.mono (by decide) (by decide)
  have s4 : ShR 1 (2 * (20 + 2) + 2) (.lst [derr b m r v, derr b m r v]) := shR_lst (k := 0) (b := 20) fun d hd => by
    simp only [List.mem_cons, List.not_mem_nil, or_false, or_self] at hd
    subst hd
    exact derr_shR
  unfold wb_law_is_told; walk_at "w"
  refine ⟨by decide, ?_⟩
  refine gReprR_of (r := .new [bookD b, rowD r, v]) s3 (by decide) (by decide) ?_
  unfold wb_law_is_told_2; walk_at "w"
  refine ⟨b, m, r, v, rfl, hb, hv, b, m, r, v, rfl, hb, hv, by decide, ?_⟩
  unfold wb_law_is_told_1; walk_at "w"
  refine gReprR_of (r := .val (.lst [derr b m r v, derr b m r v])) s4 (by decide) (by decide) ?_
  refine ⟨b, m, r, v, rfl, hb, by omega, hv, by decide, [derr b m r v], 2, rfl, rfl, by simp, by simp, by simp, ?_⟩
  refine gReprR_of (r := .new [derr b m r v, derr b m r v]) s4 (by decide) (by decide) ?_
  refine ⟨true, ?_, ?_⟩
  · show RV.val (.bl (xor false (decide (_ = _)))) = _
    simp [dOf]
  rw [if_pos rfl]
  refine ⟨by decide, ?_⟩
  refine gReprR_of (r := .new [bookD b, rowD r, v]) s3 (by decide) (by decide) ?_
  show Q (dOf (RV.val (.bl (xor false (decide (_ = _)))))) n
  have : decide (reprD (dOf (RV.new [bookD b, rowD r, v])) = reprD (D.lst [bookD b, D.tup (List.map D.int r), v])) = true := decide_eq_true rfl
  rw [this]
  exact hq
end Ly.K12

namespace Ly.K14
open PySem PySem.Spec PyProof.Rows L2 K12
/-! ### deeds one behind another, as data -/
def behD (r : List Int) : D → List Int
  | .tup [.str w, .int k] => if w = "put left" then k :: r else if w = "put right" then r ++ [k] else r.tail ++ [k]
  | .tup [.str w] => if w = "take left" then r.tail else r.dropLast
  | _ => r
def okRun (b : List Str) (m : Nat) : List Int → List D → Prop
  | _, [] => True
  | r, d :: l => d ∈ openL b m r ∧ okRun b m (behD r d) l
def runD (r : List Int) (l : List D) : List Int := l.foldl behD r
abbrev c_law_row : Ctr := K12.c_law_row
def c_behind : Ctr := fun ds n Q => ∃ b, ∃ m : Nat, ∃ r d, ds = [rowD r, d] ∧ b ∈ theBooks ∧ m ≤ 3 ∧ d ∈ deedsL b m ∧ r.length ≤ 1000 ∧ Q (rowD (behD r d)) n
def c_law_behind : Ctr := c_behind
def c_led : Ctr := fun ds n Q => ∃ b, ∃ m : Nat, ∃ r l, ds = [bookD b, .int m, rowD r, .tup l] ∧ b ∈ theBooks ∧ 1 ≤ m ∧ m ≤ 3 ∧ l.length ≤ 200 ∧ r.length ≤ 500 ∧ okRun b m r l ∧ Q (rowD (runD r l)) n
def c_law_walk : Ctr := fun ds n Q => ∃ a b, ∃ m s : Nat, ∃ r, ds = [.bag a, bookD b, .int m, rowD r, .int s] ∧ b ∈ theBooks ∧ 1 ≤ m ∧ m ≤ 3 ∧ s ≤ 210 ∧ r.length ≤ 40 ∧ ret n 420 (fun d => ∃ l, d = .tup l ∧ l.length ≤ s ∧ okRun b m r l) Q
def c_law_record : Ctr := fun ds n Q => ∃ b, ∃ m : Nat, ∃ r l, ds = [rowD r, .tup l] ∧ b ∈ theBooks ∧ m ≤ 3 ∧ ("slide" : Str) ∉ b ∧ okRun b m r l ∧ l.length ≤ 200 ∧ r.length ≤ 500 ∧ ∀ A P B : List Int, runD r l = A ++ P ++ B → Q (.tup [.lst (A.map .int), rowD P, .lst (B.map .int)]) n
def c_law_relettered : Ctr := fun ds n Q => ∃ a b, ∃ m : Nat, ∃ l, ds = [.bag a, .int m, .tup l] ∧ b ∈ theBooks ∧ 1 ≤ m ∧ m ≤ 3 ∧ l.length ≤ 200 ∧ (∀ d ∈ l, d ∈ deedsL b m) ∧ ret n 200 (fun d => ∃ l', d = .tup l' ∧ l'.map firstW = l.map firstW ∧ ∀ d ∈ l', d ∈ deedsL b m) Q
def c_law_slid : Ctr := fun ds n Q => ∃ m : Nat, ∃ r l, ds = [rowD r, .tup l] ∧ m ≤ 3 ∧ (∀ d ∈ l, d ∈ deedsL [("slide" : Str)] m) ∧ l.length ≤ r.length ∧ r.length ≤ 500 ∧ Q (rowD (runD r l)) n
def c_law_is_left : Ctr := fun ds n Q => ∃ a b, ∃ m : Nat, ∃ r l, ds = [.bag a, bookD b, .int m, rowD r, .tup l] ∧ b ∈ theBooks ∧ 1 ≤ m ∧ m ≤ 3 ∧ l.length ≤ 60 ∧ r.length ≤ 40 ∧ (∀ x ∈ r, 0 ≤ x ∧ x < (m : Int)) ∧ okRun b m r l ∧ (b = [("slide" : Str)] → l.length ≤ r.length) ∧ ret n 500 (fun d => d = .bl true) Q
def wb_behind_1 : TDS := (wRet (wSl (wV 0) woN (woS (wNeg (wC (.int 1))))))
def wb_behind_2 : TDS := (wSeq (wIfS (wTst (wOp (gEq false) (wV 2) (wC (.str ("take left" : Str))))) (wRet (wSl (wV 0) (woS (wC (.int 1))) woN)) wSkip) wb_behind_1)
def wb_behind_3 : TDS := (wSeq (wIfS (wTst (wOp (gEq false) (wV 2) (wC (.str ("slide" : Str))))) (wRet (wOp gAdd (wSl (wV 0) (woS (wC (.int 1))) woN) (wTup (wCons (wIxN 1 (wC (.int 1))) wNil)))) wSkip) wb_behind_2)
def wb_behind_4 : TDS := (wSeq (wIfS (wTst (wOp (gEq false) (wV 2) (wC (.str ("put right" : Str))))) (wRet (wOp gAdd (wV 0) (wTup (wCons (wIxN 1 (wC (.int 1))) wNil)))) wSkip) wb_behind_3)
def wb_behind_5 : TDS := (wSeq (wIfS (wTst (wOp (gEq false) (wV 2) (wC (.str ("put left" : Str))))) (wRet (wOp gAdd (wTup (wCons (wIxN 1 (wC (.int 1))) wNil)) (wV 0))) wSkip) wb_behind_4)
def wb_behind : TDS := (wSeq (wSet 2 (wIxN 1 (wC (.int 0)))) wb_behind_5)
def wb_led_1 : TDS := (wSet 4 (wCall 2 c_behind (wCons (wV 4) (wCons (wV 6) wNil))))
def wb_led_2 : TDS := (wSeq (wIfS (wTst (wOp (gIsN true) (wCall 4 c_deed_error (wCons (wV 0) (wCons (wV 1) (wCons (wV 4) (wCons (wV 6) wNil))))) (wC .non))) wNever wSkip) wb_led_1)
def wb_led_3 : TDS := (wSeq (wFor (wiEn (wCons (wV 3) wNil)) (wgTup 2 (wgCons (wgN 5) (wgCons (wgN 6) wgNil))) wb_led_2) (wRet (wV 4)))
def wb_led : TDS := (wSeq (wIfS (wTst (wOp gGt (wLenN 3) (wC (.int 200)))) wNever wSkip) (wSeq (wSet 4 (wV 2)) wb_led_3))
def wb_law_row : TDS := (wRet (wCall 3 c_law_letters (wCons (wV 0) (wCons (wV 1) (wCons (wCall 2 c_law_draw (wCons (wV 0) (wCons (wOp gAdd (wV 2) (wC (.int 1))) wNil))) wNil)))))
def wb_law_behind_1 : TDS := (wRet (wIf (wTst (wOp (gEq false) (wIxN 1 (wC (.int 0))) (wC (.str ("take right" : Str))))) (wSl (wV 0) woN (woS (wNeg (wC (.int 1))))) (wOp gAdd (wSl (wV 0) (woS (wC (.int 1))) woN) (wTup (wCons (wIxN 1 (wC (.int 1))) wNil)))))
def wb_law_behind_2 : TDS := (wSeq (wIfS (wTst (wOp (gEq false) (wIxN 1 (wC (.int 0))) (wC (.str ("take left" : Str))))) (wRet (wSl (wV 0) (woS (wC (.int 1))) woN)) wSkip) wb_law_behind_1)
def wb_law_behind_3 : TDS := (wSeq (wIfS (wTst (wOp (gEq false) (wIxN 1 (wC (.int 0))) (wC (.str ("put right" : Str))))) (wRet (wOp gAdd (wV 0) (wTup (wCons (wIxN 1 (wC (.int 1))) wNil)))) wSkip) wb_law_behind_2)
def wb_law_behind : TDS := (wSeq (wIfS (wTst (wOp (gEq false) (wIxN 1 (wC (.int 0))) (wC (.str ("put left" : Str))))) (wRet (wOp gAdd (wTup (wCons (wIxN 1 (wC (.int 1))) wNil)) (wV 0))) wSkip) wb_law_behind_3)
def wb_law_walk_1 : TDS := (wSet 3 (wCall 2 c_law_behind (wCons (wV 3) (wCons (wV 10) wNil))))
def wb_law_walk_2 : TDS := (wSeq (wDrop (wApp 6 (wV 10))) wb_law_walk_1)
def wb_law_walk_3 : TDS := (wSeq (wSet 7 (wLst (wCons (wIxN 10 (wC (.int 0))) wNil))) wb_law_walk_2)
def wb_law_walk_4 : TDS := (wSeq (wSet 10 (wCall 2 c_law_pick (wCons (wV 0) (wCons (wIf (wTAnd (wTst (wOp (gEq true) (wV 9) (wLst wNil))) (wTst (wOp gGt (wCall 2 c_law_draw (wCons (wV 0) (wCons (wC (.int 3)) wNil))) (wC (.int 0))))) (wV 9) (wV 8)) wNil)))) wb_law_walk_3)
def wb_law_walk_5 : TDS := (wSeq (wSet 9 (wLc (wiSeq (wV 8)) (wgN 10) (wTAnd (wTst (wOp (gEq true) (wV 7) (wLst wNil))) (wTst (wOp (gEq false) (wIxN 10 (wC (.int 0))) (wIxN 7 (wC (.int 0)))))) (wV 10) [10])) wb_law_walk_4)
def wb_law_walk_6 : TDS := (wSeq (wIfS (wTst (wOp (gEq false) (wV 8) (wLst wNil))) (wRet (wCB gTuple (wCons (wV 6) wNil))) wSkip) wb_law_walk_5)
def wb_law_walk_7 : TDS := (wSeq (wSet 8 (wCall 3 c_law_open (wCons (wV 1) (wCons (wV 2) (wCons (wV 3) wNil))))) wb_law_walk_6)
def wb_law_walk_8 : TDS := (wSeq (wFor (wiR1 (wCons (wV 4) wNil)) (wgN 5) wb_law_walk_7) (wRet (wCB gTuple (wCons (wV 6) wNil))))
def wb_law_walk : TDS := (wSeq (wPar2 6 7 (wCons (wLst wNil) (wCons (wLst wNil) wNil))) wb_law_walk_8)
def wb_law_record_1 : TDS := (wIfS (wTst (wOp (gEq false) (wIxN 2 (wC (.int 0))) (wC (.str ("put left" : Str))))) (wSet 3 (wOp gAdd (wLst (wCons (wIxN 2 (wC (.int 1))) wNil)) (wV 3))) (wIfS (wTst (wOp (gEq false) (wIxN 2 (wC (.int 0))) (wC (.str ("put right" : Str))))) (wSet 6 (wOp gAdd (wV 6) (wLst (wCons (wIxN 2 (wC (.int 1))) wNil)))) (wIfS (wTst (wOp (gEq false) (wIxN 2 (wC (.int 0))) (wC (.str ("take left" : Str))))) (wIfS (wTst (wOp (gEq true) (wV 3) (wLst wNil))) (wSet 3 (wSl (wV 3) (woS (wC (.int 1))) woN)) (wIfS (wTst (wOp gLt (wV 4) (wV 5))) (wSet 4 (wOp gAdd (wV 4) (wC (.int 1)))) (wSet 6 (wSl (wV 6) (woS (wC (.int 1))) woN)))) (wIfS (wTst (wOp (gEq true) (wV 6) (wLst wNil))) (wSet 6 (wSl (wV 6) woN (woS (wNeg (wC (.int 1)))))) (wIfS (wTst (wOp gLt (wV 4) (wV 5))) (wSet 5 (wOp gMinus (wV 5) (wC (.int 1)))) (wSet 3 (wSl (wV 3) woN (woS (wNeg (wC (.int 1)))))))))))
def wb_law_record_2 : TDS := (wRet (wTup (wCons (wV 3) (wCons (wSl (wV 0) (woS (wV 4)) (woS (wV 5))) (wCons (wV 6) wNil)))))
def wb_law_record_3 : TDS := (wSeq (wFor (wiSeq (wV 1)) (wgN 2) wb_law_record_1) wb_law_record_2)
def wb_law_record : TDS := (wSeq (wAsg (wTup (wCons (wLst wNil) (wCons (wC (.int 0)) (wCons (wLenN 0) (wCons (wLst wNil) wNil))))) (wgTup 4 (wgCons (wgN 3) (wgCons (wgN 4) (wgCons (wgN 5) (wgCons (wgN 6) wgNil)))))) wb_law_record_3)
def wb_law_relettered : TDS := (wRet (wCB gTuple (wCons (wLc (wiSeq (wV 2)) (wgN 3) wYes (wIf (wTst (wOp (gEq false) (wLenN 3) (wC (.int 2)))) (wTup (wCons (wIxN 3 (wC (.int 0))) (wCons (wCall 2 c_law_draw (wCons (wV 0) (wCons (wV 1) wNil))) wNil))) (wV 3)) [3]) wNil)))
def wb_law_slid : TDS := (wRet (wOp gAdd (wSl (wV 0) (woS (wLenN 1)) woN) (wCB gTuple (wCons (wLc (wiSeq (wV 1)) (wgN 2) wYes (wIxN 2 (wC (.int 1))) [2]) wNil))))
def wb_law_is_left_1 : TDS := (wSet 8 (wOp gAdd (wOp gAdd (wCB gTuple (wCons (wV 9) wNil)) (wV 10)) (wCB gTuple (wCons (wV 11) wNil))))
def wb_law_is_left_2 : TDS := (wRet (wOp (gEq false) (wCB gReprR (wCons (wLst (wCons (wV 3) (wCons (wV 4) wNil))) wNil)) (wV 7)))
def wb_law_is_left_3 : TDS := (wSeq (wIfS (wTOr (wTst (wOp (gEq true) (wLenN 5) (wLenN 8))) (wTst (wOp (gEq true) (wCB gReprR (wCons (wCall 3 c_open_deeds (wCons (wV 1) (wCons (wV 2) (wCons (wV 5) wNil)))) wNil)) (wCB gReprR (wCons (wCall 3 c_open_deeds (wCons (wV 1) (wCons (wV 2) (wCons (wV 6) wNil)))) wNil))))) (wRet (wC (.bl false))) wSkip) wb_law_is_left_2)
def wb_law_is_left_4 : TDS := (wSeq (wSet 5 (wCall 4 c_led (wCons (wV 1) (wCons (wV 2) (wCons (wCall 3 c_law_letters (wCons (wV 0) (wCons (wV 2) (wCons (wLenN 3) wNil)))) (wCons (wCall 3 c_law_relettered (wCons (wV 0) (wCons (wV 2) (wCons (wV 4) wNil)))) wNil)))))) wb_law_is_left_3)
def wb_law_is_left_5 : TDS := (wSeq (wIfS (wTst (wOp (gEq true) (wCB gReprR (wCons (wV 6) wNil)) (wCB gReprR (wCons (wV 8) wNil)))) (wRet (wC (.bl false))) wSkip) wb_law_is_left_4)
def wb_law_is_left_6 : TDS := (wSeq (wIfS (wTst (wOp (gEq false) (wV 1) (wTup (wCons (wC (.str ("slide" : Str))) wNil)))) (wSet 8 (wCall 2 c_law_slid (wCons (wV 3) (wCons (wV 4) wNil)))) (wSeq (wAsg (wCall 2 c_law_record (wCons (wV 3) (wCons (wV 4) wNil))) (wgTup 3 (wgCons (wgN 9) (wgCons (wgN 10) (wgCons (wgN 11) wgNil))))) wb_law_is_left_1)) wb_law_is_left_5)
def wb_law_is_left : TDS := (wSeq (wPar2 6 7 (wCons (wCall 4 c_led (wCons (wV 1) (wCons (wV 2) (wCons (wV 3) (wCons (wV 4) wNil))))) (wCons (wCB gReprR (wCons (wLst (wCons (wV 3) (wCons (wV 4) wNil))) wNil)) wNil))) wb_law_is_left_6)
def wb_law_1 : TDS := (wIfS (wTNot (wTst (wCall 5 c_law_is_left (wCons (wV 2) (wCons (wV 8) (wCons (wV 9) (wCons (wV 4) (wCons (wV 7) wNil)))))))) (wRet (wC (.bl false))) wSkip)
def wb_law_2 : TDS := (wFor (wiSeq (wTup (wCons (wV 6) (wCons (wSl (wV 6) woN (woS (wCall 2 c_law_draw (wCons (wV 2) (wCons (wOp gAdd (wLenN 6) (wC (.int 1))) wNil))))) wNil)))) (wgN 7) wb_law_1)
def wb_law_3 : TDS := (wSeq (wIfS (wTst (wOp (gEq false) (wV 8) (wTup (wCons (wC (.str ("slide" : Str))) wNil)))) (wSet 6 (wSl (wV 6) woN (woS (wLenN 4)))) wSkip) wb_law_2)
def wb_law_4 : TDS := (wSeq (wSet 6 (wCall 5 c_law_walk (wCons (wV 2) (wCons (wV 8) (wCons (wV 9) (wCons (wV 4) (wCons (wV 5) wNil))))))) wb_law_3)
def wb_law_5 : TDS := (wSeq (wSet 5 (wCall 2 c_law_pick (wCons (wV 2) (wCons (wLst (wCons (wC (.int 6)) (wCons (wC (.int 20)) (wCons (wC (.int 20)) (wCons (wC (.int 60)) wNil))))) wNil)))) wb_law_4)
def wb_law_6 : TDS := (wSeq (wSet 4 (wCall 3 c_law_row (wCons (wV 2) (wCons (wV 9) (wCons (wCall 2 c_law_pick (wCons (wV 2) (wCons (wLst (wCons (wC (.int 3)) (wCons (wC (.int 8)) (wCons (wC (.int 40)) wNil)))) wNil))) wNil))))) wb_law_5)
def wb_law_7 : TDS := (wSeq (wPar2 8 9 (wCons (wCall 2 c_law_pick (wCons (wV 2) (wCons (wOp gAdd (wV 3) (wLst (wCons (wTup (wCons (wC (.str ("slide" : Str))) wNil)) (wCons (wCall0 c_law_words) (wCons (wSl (wCall0 c_law_words) (woS (wC (.int 1))) woN) wNil))))) wNil))) (wCons (wOp gAdd (wC (.int 1)) (wCall 2 c_law_draw (wCons (wV 2) (wCons (wC (.int 3)) wNil)))) wNil))) wb_law_6)
def wb_law_8 : TDS := (wSeq (wFor (wiR1 (wCons (wC (.int 4)) wNil)) (wgN 1) wb_law_7) (wRet (wC (.bl true))))
def wb_law : TDS := (wSeq (wPar2 2 3 (wCons (wCall 1 c_law_pot (wCons (wV 0) wNil)) (wCons (wCall0 c_law_books) wNil))) wb_law_8)
end Ly.K14

namespace Ly.K14
open PySem PySem.Spec PyProof.Rows L2 RZ Ly.K12
def topS (i : Nat) : Stmt := PySem.Challenge.pw_endkeepers_k14_whole_what_is_left_of_a_r.main.body.getD i (.Pass ⟨0, 0, 0, 0⟩)
abbrev s_is_integer : Stmt := topS 7
abbrev N_is_integer : List Str := ["value"]
abbrev p_is_integer : List Str := ["value"]
theorem sc_is_integer : FnScope N_is_integer p_is_integer (defScope s_is_integer) := ⟨rfl, rfl, rfl, by decide +kernel, rfl, by decide +kernel, by decide +kernel⟩
abbrev s_is_whole : Stmt := topS 8
abbrev N_is_whole : List Str := ["value", "low", "high"]
abbrev p_is_whole : List Str := ["value", "low", "high"]
theorem sc_is_whole : FnScope N_is_whole p_is_whole (defScope s_is_whole) := ⟨rfl, rfl, rfl, by decide +kernel, rfl, by decide +kernel, by decide +kernel⟩
abbrev s_deeds_of : Stmt := topS 12
abbrev N_deeds_of : List Str := ["book", "many", "deeds", "word", "letter"]
abbrev p_deeds_of : List Str := ["book", "many"]
theorem sc_deeds_of : FnScope N_deeds_of p_deeds_of (defScope s_deeds_of) := ⟨rfl, rfl, rfl, by decide +kernel, rfl, by decide +kernel, by decide +kernel⟩
abbrev s_deed_error : Stmt := topS 13
abbrev N_deed_error : List Str := ["book", "many", "row", "value", "word"]
abbrev p_deed_error : List Str := ["book", "many", "row", "value"]
theorem sc_deed_error : FnScope N_deed_error p_deed_error (defScope s_deed_error) := ⟨rfl, rfl, rfl, by decide +kernel, rfl, by decide +kernel, by decide +kernel⟩
abbrev s_is_built_as_deed : Stmt := topS 14
abbrev N_is_built_as_deed : List Str := ["value"]
abbrev p_is_built_as_deed : List Str := ["value"]
theorem sc_is_built_as_deed : FnScope N_is_built_as_deed p_is_built_as_deed (defScope s_is_built_as_deed) := ⟨rfl, rfl, rfl, by decide +kernel, rfl, by decide +kernel, by decide +kernel⟩
abbrev s_open_deeds : Stmt := topS 15
abbrev N_open_deeds : List Str := ["book", "many", "row", "deed"]
abbrev p_open_deeds : List Str := ["book", "many", "row"]
theorem sc_open_deeds : FnScope N_open_deeds p_open_deeds (defScope s_open_deeds) := ⟨rfl, rfl, rfl, by decide +kernel, rfl, by decide +kernel, by decide +kernel⟩
abbrev s_behind : Stmt := topS 16
abbrev N_behind : List Str := ["row", "deed", "word"]
abbrev p_behind : List Str := ["row", "deed"]
theorem sc_behind : FnScope N_behind p_behind (defScope s_behind) := ⟨rfl, rfl, rfl, by decide +kernel, rfl, by decide +kernel, by decide +kernel⟩
abbrev s_led : Stmt := topS 17
abbrev N_led : List Str := ["book", "many", "row", "deeds", "here", "place", "deed"]
abbrev p_led : List Str := ["book", "many", "row", "deeds"]
theorem sc_led : FnScope N_led p_led (defScope s_led) := ⟨rfl, rfl, rfl, by decide +kernel, rfl, by decide +kernel, by decide +kernel⟩
abbrev s_law_pot : Stmt := topS 19
abbrev N_law_pot : List Str := ["script", "stirred", "cell"]
abbrev p_law_pot : List Str := ["script"]
theorem sc_law_pot : FnScope N_law_pot p_law_pot (defScope s_law_pot) := ⟨rfl, rfl, rfl, by decide +kernel, rfl, by decide +kernel, by decide +kernel⟩
abbrev s_law_draw : Stmt := topS 20
abbrev N_law_draw : List Str := ["pot", "many", "one", "whole"]
abbrev p_law_draw : List Str := ["pot", "many"]
theorem sc_law_draw : FnScope N_law_draw p_law_draw (defScope s_law_draw) := ⟨rfl, rfl, rfl, by decide +kernel, rfl, by decide +kernel, by decide +kernel⟩
abbrev s_law_pick : Stmt := topS 21
abbrev N_law_pick : List Str := ["pot", "items"]
abbrev p_law_pick : List Str := ["pot", "items"]
theorem sc_law_pick : FnScope N_law_pick p_law_pick (defScope s_law_pick) := ⟨rfl, rfl, rfl, by decide +kernel, rfl, by decide +kernel, by decide +kernel⟩
abbrev s_law_letters : Stmt := topS 22
abbrev N_law_letters : List Str := ["pot", "many", "size", "place"]
abbrev p_law_letters : List Str := ["pot", "many", "size"]
theorem sc_law_letters : FnScope N_law_letters p_law_letters (defScope s_law_letters) := ⟨rfl, rfl, rfl, by decide +kernel, rfl, by decide +kernel, by decide +kernel⟩
abbrev s_law_row : Stmt := topS 23
abbrev N_law_row : List Str := ["pot", "many", "limit"]
abbrev p_law_row : List Str := ["pot", "many", "limit"]
theorem sc_law_row : FnScope N_law_row p_law_row (defScope s_law_row) := ⟨rfl, rfl, rfl, by decide +kernel, rfl, by decide +kernel, by decide +kernel⟩
abbrev s_law_words : Stmt := topS 24
abbrev N_law_words : List Str := []
abbrev p_law_words : List Str := []
theorem sc_law_words : FnScope N_law_words p_law_words (defScope s_law_words) := ⟨rfl, rfl, rfl, by decide +kernel, rfl, by decide +kernel, by decide +kernel⟩
abbrev s_law_books : Stmt := topS 25
abbrev N_law_books : List Str := ["found", "number", "spot", "word"]
abbrev p_law_books : List Str := []
theorem sc_law_books : FnScope N_law_books p_law_books (defScope s_law_books) := ⟨rfl, rfl, rfl, by decide +kernel, rfl, by decide +kernel, by decide +kernel⟩
abbrev s_law_deeds : Stmt := topS 26
abbrev N_law_deeds : List Str := ["book", "many", "found", "word", "letter"]
abbrev p_law_deeds : List Str := ["book", "many"]
theorem sc_law_deeds : FnScope N_law_deeds p_law_deeds (defScope s_law_deeds) := ⟨rfl, rfl, rfl, by decide +kernel, rfl, by decide +kernel, by decide +kernel⟩
abbrev s_law_open : Stmt := topS 27
abbrev N_law_open : List Str := ["book", "many", "row", "deed"]
abbrev p_law_open : List Str := ["book", "many", "row"]
theorem sc_law_open : FnScope N_law_open p_law_open (defScope s_law_open) := ⟨rfl, rfl, rfl, by decide +kernel, rfl, by decide +kernel, by decide +kernel⟩
abbrev s_law_behind : Stmt := topS 28
abbrev N_law_behind : List Str := ["row", "deed"]
abbrev p_law_behind : List Str := ["row", "deed"]
theorem sc_law_behind : FnScope N_law_behind p_law_behind (defScope s_law_behind) := ⟨rfl, rfl, rfl, by decide +kernel, rfl, by decide +kernel, by decide +kernel⟩
abbrev s_law_walk : Stmt := topS 29
abbrev N_law_walk : List Str := ["pot", "book", "many", "row", "size", "turn", "found", "kept", "some", "alike", "deed"]
abbrev p_law_walk : List Str := ["pot", "book", "many", "row", "size"]
theorem sc_law_walk : FnScope N_law_walk p_law_walk (defScope s_law_walk) := ⟨rfl, rfl, rfl, by decide +kernel, rfl, by decide +kernel, by decide +kernel⟩
abbrev s_law_record : Stmt := topS 30
abbrev N_law_record : List Str := ["row", "deeds", "deed", "ahead", "first", "last", "behind"]
abbrev p_law_record : List Str := ["row", "deeds"]
theorem sc_law_record : FnScope N_law_record p_law_record (defScope s_law_record) := ⟨rfl, rfl, rfl, by decide +kernel, rfl, by decide +kernel, by decide +kernel⟩
abbrev s_law_relettered : Stmt := topS 31
abbrev N_law_relettered : List Str := ["pot", "many", "deeds", "deed"]
abbrev p_law_relettered : List Str := ["pot", "many", "deeds"]
theorem sc_law_relettered : FnScope N_law_relettered p_law_relettered (defScope s_law_relettered) := ⟨rfl, rfl, rfl, by decide +kernel, rfl, by decide +kernel, by decide +kernel⟩
abbrev s_law_slid : Stmt := topS 32
abbrev N_law_slid : List Str := ["row", "deeds", "deed"]
abbrev p_law_slid : List Str := ["row", "deeds"]
theorem sc_law_slid : FnScope N_law_slid p_law_slid (defScope s_law_slid) := ⟨rfl, rfl, rfl, by decide +kernel, rfl, by decide +kernel, by decide +kernel⟩
abbrev s_law_is_left : Stmt := topS 33
abbrev N_law_is_left : List Str := ["pot", "book", "many", "row", "deeds", "other", "said", "kept", "due", "ahead", "piece", "behind"]
abbrev p_law_is_left : List Str := ["pot", "book", "many", "row", "deeds"]
theorem sc_law_is_left : FnScope N_law_is_left p_law_is_left (defScope s_law_is_left) := ⟨rfl, rfl, rfl, by decide +kernel, rfl, by decide +kernel, by decide +kernel⟩
abbrev s_law : Stmt := topS 34
abbrev N_law : List Str := ["script", "turn", "pot", "books", "row", "size", "deeds", "some", "book", "many"]
abbrev p_law : List Str := ["script"]
theorem sc_law : FnScope N_law p_law (defScope s_law) := ⟨rfl, rfl, rfl, by decide +kernel, rfl, by decide +kernel, by decide +kernel⟩
structure Txt (K : PySem.W.Frag) (mg : Str → Option Value) where
  n_abs : mg "abs" = none
  n_bool : mg "bool" = none
  n_enumerate : mg "enumerate" = none
  n_int : mg "int" = none
  n_isinstance : mg "isinstance" = none
  n_len : mg "len" = none
  n_range : mg "range" = none
  n_repr : mg "repr" = none
  n_sorted : mg "sorted" = none
  n_tuple : mg "tuple" = none
  t_MAX_DEEDS : Tok
  c_MAX_DEEDS : mg "MAX_DEEDS" = some (.int 200 t_MAX_DEEDS)
  c_WORDS : GTup K mg "WORDS" gt_WORDS
  c_PUTTING : GTup K mg "PUTTING" gt_PUTTING
  c_TAKING : GTup K mg "TAKING" gt_TAKING
  a_is_integer : Addr
  d_is_integer : FuncData
  F_is_integer : Fun K "is_integer" "is_integer" s_is_integer a_is_integer d_is_integer
  b_is_integer : Binds K d_is_integer p_is_integer []
  g_is_integer : mg "is_integer" = some (.ref a_is_integer)
  a_is_whole : Addr
  d_is_whole : FuncData
  F_is_whole : Fun K "is_whole" "is_whole" s_is_whole a_is_whole d_is_whole
  b_is_whole : Binds K d_is_whole p_is_whole []
  g_is_whole : mg "is_whole" = some (.ref a_is_whole)
  a_deeds_of : Addr
  d_deeds_of : FuncData
  F_deeds_of : Fun K "deeds_of" "deeds_of" s_deeds_of a_deeds_of d_deeds_of
  b_deeds_of : Binds K d_deeds_of p_deeds_of []
  g_deeds_of : mg "deeds_of" = some (.ref a_deeds_of)
  a_deed_error : Addr
  d_deed_error : FuncData
  F_deed_error : Fun K "deed_error" "deed_error" s_deed_error a_deed_error d_deed_error
  b_deed_error : Binds K d_deed_error p_deed_error []
  g_deed_error : mg "deed_error" = some (.ref a_deed_error)
  a_is_built_as_deed : Addr
  d_is_built_as_deed : FuncData
  F_is_built_as_deed : Fun K "_is_built_as_deed" "_is_built_as_deed" s_is_built_as_deed a_is_built_as_deed d_is_built_as_deed
  b_is_built_as_deed : Binds K d_is_built_as_deed p_is_built_as_deed []
  g_is_built_as_deed : mg "_is_built_as_deed" = some (.ref a_is_built_as_deed)
  a_open_deeds : Addr
  d_open_deeds : FuncData
  F_open_deeds : Fun K "open_deeds" "open_deeds" s_open_deeds a_open_deeds d_open_deeds
  b_open_deeds : Binds K d_open_deeds p_open_deeds []
  g_open_deeds : mg "open_deeds" = some (.ref a_open_deeds)
  a_behind : Addr
  d_behind : FuncData
  F_behind : Fun K "_behind" "_behind" s_behind a_behind d_behind
  b_behind : Binds K d_behind p_behind []
  g_behind : mg "_behind" = some (.ref a_behind)
  a_led : Addr
  d_led : FuncData
  F_led : Fun K "led" "led" s_led a_led d_led
  b_led : Binds K d_led p_led []
  g_led : mg "led" = some (.ref a_led)
  a_law_pot : Addr
  d_law_pot : FuncData
  F_law_pot : Fun K "_law_pot" "_law_pot" s_law_pot a_law_pot d_law_pot
  b_law_pot : Binds K d_law_pot p_law_pot []
  g_law_pot : mg "_law_pot" = some (.ref a_law_pot)
  a_law_draw : Addr
  d_law_draw : FuncData
  F_law_draw : Fun K "_law_draw" "_law_draw" s_law_draw a_law_draw d_law_draw
  b_law_draw : Binds K d_law_draw p_law_draw []
  g_law_draw : mg "_law_draw" = some (.ref a_law_draw)
  a_law_pick : Addr
  d_law_pick : FuncData
  F_law_pick : Fun K "_law_pick" "_law_pick" s_law_pick a_law_pick d_law_pick
  b_law_pick : Binds K d_law_pick p_law_pick []
  g_law_pick : mg "_law_pick" = some (.ref a_law_pick)
  a_law_letters : Addr
  d_law_letters : FuncData
  F_law_letters : Fun K "_law_letters" "_law_letters" s_law_letters a_law_letters d_law_letters
  b_law_letters : Binds K d_law_letters p_law_letters []
  g_law_letters : mg "_law_letters" = some (.ref a_law_letters)
  a_law_row : Addr
  d_law_row : FuncData
  F_law_row : Fun K "_law_row" "_law_row" s_law_row a_law_row d_law_row
  b_law_row : Binds K d_law_row p_law_row []
  g_law_row : mg "_law_row" = some (.ref a_law_row)
  a_law_words : Addr
  d_law_words : FuncData
  F_law_words : Fun K "_law_words" "_law_words" s_law_words a_law_words d_law_words
  b_law_words : Binds K d_law_words p_law_words []
  g_law_words : mg "_law_words" = some (.ref a_law_words)
  a_law_books : Addr
  d_law_books : FuncData
  F_law_books : Fun K "_law_books" "_law_books" s_law_books a_law_books d_law_books
  b_law_books : Binds K d_law_books p_law_books []
  g_law_books : mg "_law_books" = some (.ref a_law_books)
  a_law_deeds : Addr
  d_law_deeds : FuncData
  F_law_deeds : Fun K "_law_deeds" "_law_deeds" s_law_deeds a_law_deeds d_law_deeds
  b_law_deeds : Binds K d_law_deeds p_law_deeds []
  g_law_deeds : mg "_law_deeds" = some (.ref a_law_deeds)
  a_law_open : Addr
  d_law_open : FuncData
  F_law_open : Fun K "_law_open" "_law_open" s_law_open a_law_open d_law_open
  b_law_open : Binds K d_law_open p_law_open []
  g_law_open : mg "_law_open" = some (.ref a_law_open)
  a_law_behind : Addr
  d_law_behind : FuncData
  F_law_behind : Fun K "_law_behind" "_law_behind" s_law_behind a_law_behind d_law_behind
  b_law_behind : Binds K d_law_behind p_law_behind []
  g_law_behind : mg "_law_behind" = some (.ref a_law_behind)
  a_law_walk : Addr
  d_law_walk : FuncData
  F_law_walk : Fun K "_law_walk" "_law_walk" s_law_walk a_law_walk d_law_walk
  b_law_walk : Binds K d_law_walk p_law_walk []
  g_law_walk : mg "_law_walk" = some (.ref a_law_walk)
  a_law_record : Addr
  d_law_record : FuncData
  F_law_record : Fun K "_law_record" "_law_record" s_law_record a_law_record d_law_record
  b_law_record : Binds K d_law_record p_law_record []
  g_law_record : mg "_law_record" = some (.ref a_law_record)
  a_law_relettered : Addr
  d_law_relettered : FuncData
  F_law_relettered : Fun K "_law_relettered" "_law_relettered" s_law_relettered a_law_relettered d_law_relettered
  b_law_relettered : Binds K d_law_relettered p_law_relettered []
  g_law_relettered : mg "_law_relettered" = some (.ref a_law_relettered)
  a_law_slid : Addr
  d_law_slid : FuncData
  F_law_slid : Fun K "_law_slid" "_law_slid" s_law_slid a_law_slid d_law_slid
  b_law_slid : Binds K d_law_slid p_law_slid []
  g_law_slid : mg "_law_slid" = some (.ref a_law_slid)
  a_law_is_left : Addr
  d_law_is_left : FuncData
  F_law_is_left : Fun K "_law_is_left" "_law_is_left" s_law_is_left a_law_is_left d_law_is_left
  b_law_is_left : Binds K d_law_is_left p_law_is_left []
  g_law_is_left : mg "_law_is_left" = some (.ref a_law_is_left)
  a_law : Addr
  d_law : FuncData
  F_law : Fun K "law" "law" s_law a_law d_law
  b_law : Binds K d_law p_law []
  g_law : mg "law" = some (.ref a_law)
section
variable {P : Program} {w : World} {K : PySem.W.Frag} {mg : Str → Option Value} {base : Heap}
abbrev ok_is_integer (P : Program) (w : World) (base : Heap) (T : Txt K mg) : Prop := FnOk P w K mg base CX0 1 T.a_is_integer T.d_is_integer p_is_integer (spC K 1 c_is_integer)
abbrev ok_is_whole (P : Program) (w : World) (base : Heap) (T : Txt K mg) : Prop := FnOk P w K mg base CX0 2 T.a_is_whole T.d_is_whole p_is_whole (spC K 3 c_is_whole)
abbrev ok_deeds_of (P : Program) (w : World) (base : Heap) (T : Txt K mg) : Prop := FnOk P w K mg base CX0 1 T.a_deeds_of T.d_deeds_of p_deeds_of (spC K 2 c_deeds_of)
abbrev ok_deed_error (P : Program) (w : World) (base : Heap) (T : Txt K mg) : Prop := FnOk P w K mg base CX0 3 T.a_deed_error T.d_deed_error p_deed_error (spC K 4 c_deed_error)
abbrev ok_is_built_as_deed (P : Program) (w : World) (base : Heap) (T : Txt K mg) : Prop := FnOk P w K mg base CX0 1 T.a_is_built_as_deed T.d_is_built_as_deed p_is_built_as_deed (spC K 1 c_is_built_as_deed)
abbrev ok_open_deeds (P : Program) (w : World) (base : Heap) (T : Txt K mg) : Prop := FnOk P w K mg base CX0 4 T.a_open_deeds T.d_open_deeds p_open_deeds (spC K 3 c_open_deeds)
abbrev ok_behind (P : Program) (w : World) (base : Heap) (T : Txt K mg) : Prop := FnOk P w K mg base CX0 1 T.a_behind T.d_behind p_behind (spC K 2 c_behind)
abbrev ok_led (P : Program) (w : World) (base : Heap) (T : Txt K mg) : Prop := FnOk P w K mg base CX0 4 T.a_led T.d_led p_led (spC K 4 c_led)
abbrev ok_law_pot (P : Program) (w : World) (base : Heap) (T : Txt K mg) : Prop := FnOk P w K mg base CX0 1 T.a_law_pot T.d_law_pot p_law_pot (spC K 1 c_law_pot)
abbrev ok_law_draw (P : Program) (w : World) (base : Heap) (T : Txt K mg) : Prop := FnOk P w K mg base CX0 1 T.a_law_draw T.d_law_draw p_law_draw (spC K 2 c_law_draw)
abbrev ok_law_pick (P : Program) (w : World) (base : Heap) (T : Txt K mg) : Prop := FnOk P w K mg base CX0 2 T.a_law_pick T.d_law_pick p_law_pick (spC K 2 c_law_pick)
abbrev ok_law_letters (P : Program) (w : World) (base : Heap) (T : Txt K mg) : Prop := FnOk P w K mg base CX0 2 T.a_law_letters T.d_law_letters p_law_letters (spC K 3 c_law_letters)
abbrev ok_law_row (P : Program) (w : World) (base : Heap) (T : Txt K mg) : Prop := FnOk P w K mg base CX0 3 T.a_law_row T.d_law_row p_law_row (spC K 3 c_law_row)
abbrev ok_law_words (P : Program) (w : World) (base : Heap) (T : Txt K mg) : Prop := FnOk P w K mg base CX0 1 T.a_law_words T.d_law_words p_law_words (spC K 0 c_law_words)
abbrev ok_law_books (P : Program) (w : World) (base : Heap) (T : Txt K mg) : Prop := FnOk P w K mg base CX0 2 T.a_law_books T.d_law_books p_law_books (spC K 0 c_law_books)
abbrev ok_law_deeds (P : Program) (w : World) (base : Heap) (T : Txt K mg) : Prop := FnOk P w K mg base CX0 1 T.a_law_deeds T.d_law_deeds p_law_deeds (spC K 2 c_law_deeds)
abbrev ok_law_open (P : Program) (w : World) (base : Heap) (T : Txt K mg) : Prop := FnOk P w K mg base CX0 2 T.a_law_open T.d_law_open p_law_open (spC K 3 c_law_open)
abbrev ok_law_behind (P : Program) (w : World) (base : Heap) (T : Txt K mg) : Prop := FnOk P w K mg base CX0 1 T.a_law_behind T.d_law_behind p_law_behind (spC K 2 c_law_behind)
abbrev ok_law_walk (P : Program) (w : World) (base : Heap) (T : Txt K mg) : Prop := FnOk P w K mg base CX0 3 T.a_law_walk T.d_law_walk p_law_walk (spC K 5 c_law_walk)
abbrev ok_law_record (P : Program) (w : World) (base : Heap) (T : Txt K mg) : Prop := FnOk P w K mg base CX0 1 T.a_law_record T.d_law_record p_law_record (spC K 2 c_law_record)
abbrev ok_law_relettered (P : Program) (w : World) (base : Heap) (T : Txt K mg) : Prop := FnOk P w K mg base CX0 2 T.a_law_relettered T.d_law_relettered p_law_relettered (spC K 3 c_law_relettered)
abbrev ok_law_slid (P : Program) (w : World) (base : Heap) (T : Txt K mg) : Prop := FnOk P w K mg base CX0 1 T.a_law_slid T.d_law_slid p_law_slid (spC K 2 c_law_slid)
abbrev ok_law_is_left (P : Program) (w : World) (base : Heap) (T : Txt K mg) : Prop := FnG P w K mg base 5 T.a_law_is_left T.d_law_is_left p_law_is_left (spC K 5 c_law_is_left)
abbrev ok_law (P : Program) (w : World) (base : Heap) (T : Txt K mg) : Prop := FnG P w K mg base 6 T.a_law T.d_law p_law (spC K 1 c_law)
theorem dss_is_integer (T : Txt K mg)  {cdv : Value} {A : Around} {outer : List Env} {s : Shared} {H : Hp} {E : XK} {B : Bs} (hr : Room 0 (A.deeper (envOfC "is_integer" (defScope s_is_integer) s.heap.objs.size T.a_is_integer cdv))) :
    DSs (cxOf CX0 P w K mg base N_is_integer "is_integer" (defScope s_is_integer) T.a_is_integer cdv A outer s H E).nox B (defBody s_is_integer) wb_is_integer :=
  (dss_one (ds_ret (de_and (de_callB snd_isi call_isi (by rfl) T.n_isinstance (by decide +kernel) (da_cons (de_var (pv 0)) (da_cons (de_ty (by rfl) T.n_int (by decide +kernel)) da_nil))) (de_one (de_not (de_callB snd_isi call_isi (by rfl) T.n_isinstance (by decide +kernel) (da_cons (de_var (pv 0)) (da_cons (de_ty (by rfl) T.n_bool (by decide +kernel)) da_nil))))))))
theorem dss_is_whole (T : Txt K mg) (G_is_integer : ok_is_integer P w base T) {cdv : Value} {A : Around} {outer : List Env} {s : Shared} {H : Hp} {E : XK} {B : Bs} (hr : Room 1 (A.deeper (envOfC "is_whole" (defScope s_is_whole) s.heap.objs.size T.a_is_whole cdv))) :
    DSs (cxOf CX0 P w K mg base N_is_whole "is_whole" (defScope s_is_whole) T.a_is_whole cdv A outer s H E).nox B (defBody s_is_whole) wb_is_whole :=
  (dss_one (ds_ret (de_and (de_call (pe_call G_is_integer (hr.mono (by decide)) (by rfl) T.g_is_integer T.F_is_integer.kp T.b_is_integer .nil pass0 (da_cons (de_var (pv 0)) da_nil))) (de_one (de_chainLL (de_var (pv 1)) (de_var (pv 0)) (de_var (pv 2)))))))
theorem dss_deeds_of (T : Txt K mg)  {cdv : Value} {A : Around} {outer : List Env} {s : Shared} {H : Hp} {E : XK} {B : Bs} (hr : Room 0 (A.deeper (envOfC "deeds_of" (defScope s_deeds_of) s.heap.objs.size T.a_deeds_of cdv))) :
    DSs (cxOf CX0 P w K mg base N_deeds_of "deeds_of" (defScope s_deeds_of) T.a_deeds_of cdv A outer s H E).nox B (defBody s_deeds_of) wb_deeds_of :=
  (dss_cons (ds_set (ps_set (i := 2) sc_deeds_of.nd rfl (Or.inl rfl) (de_lst da_nil)))
    (dss_cons (ds_for PassesOwn.never rfl (di_seq (de_var (pv 0))) (dg_name (pg_name (i := 3) sc_deeds_of.nd rfl (Or.inr rfl))) (dss_one (ds_if (dt_inG (hu65_of hr) T.c_PUTTING (by rfl) (de_var (pv 3))) (dss_one (ds_expr (de_ext (pe_bm PySem.F.plainAttrs_list PySem.F.slot_list_extend PySem.F.type_list_extend mt_extend (pv 2) (pa_cons (de_lc (own := [("letter", 4)]) (vs := [4]) rfl (by simp) (pe_lc (own := [("letter", 4)]) rfl sc_deeds_of.nd (di_r1 (by rfl) T.n_range (da_cons (de_var (pv 1)) da_nil)) (blkOk_by (own := [("letter", 4)]) (N := N_deeds_of) (sc := defScope s_deeds_of) (by decide +kernel)) (fun _ _ _ _ _ => (dg_name (pg_name (i := 4) sc_deeds_of.nd rfl (Or.inl rfl)))) (fun _ _ _ _ _ => dts_nil) (fun _ _ _ _ _ => (de_tup (da_cons (de_var (pv 3)) (da_cons (de_var (pv 4)) da_nil)))))) pa_nil))))) (dss_one (ds_expr (de_app (pe_bm PySem.F.plainAttrs_list PySem.F.slot_list_append PySem.F.type_list_append mt_append (pv 2) (pa_cons (de_tup (da_cons (de_var (pv 3)) da_nil)) pa_nil))))))))
    (dss_one (ds_ret (de_callTy snd_tuple call_tuple_of (by rfl) T.n_tuple (by decide +kernel) (da_cons (de_var (pv 2)) da_nil))))))
theorem dss_deed_error (T : Txt K mg) (G_is_built_as_deed : ok_is_built_as_deed P w base T) (G_is_whole : ok_is_whole P w base T) {cdv : Value} {A : Around} {outer : List Env} {s : Shared} {H : Hp} {E : XK} {B : Bs} (hr : Room 2 (A.deeper (envOfC "deed_error" (defScope s_deed_error) s.heap.objs.size T.a_deed_error cdv))) :
    DSs (cxOf CX0 P w K mg base N_deed_error "deed_error" (defScope s_deed_error) T.a_deed_error cdv A outer s H E).nox B (defBody s_deed_error) wb_deed_error :=
  (dss_cons (ds_if (dt_not (dt_val (de_call (pe_call G_is_built_as_deed (hr.mono (by decide)) (by rfl) T.g_is_built_as_deed T.F_is_built_as_deed.kp T.b_is_built_as_deed .nil pass0 (da_cons (de_var (pv 3)) da_nil))))) (dss_one (ds_ret de_str)) dss_nil)
    (dss_cons (ds_set (ps_set (i := 4) sc_deed_error.nd rfl (Or.inl rfl) (de_ixN (pv 3) de_int (fun _ _ => rfl))))
    (dss_cons (ds_if (dt_bool (dw_and (dt_inG (hu65_of hr) T.c_PUTTING (by rfl) (de_var (pv 4))) (dw_and1 (dt_not (dt_val (de_call (pe_call G_is_whole (hr.mono (by decide)) (by rfl) T.g_is_whole T.F_is_whole.kp T.b_is_whole .nil pass0 (da_cons (de_ixN (pv 3) de_int (fun _ _ => rfl)) (da_cons de_int (da_cons (de_sub (de_var (pv 1)) de_int) da_nil)))))))))) (dss_one (ds_ret de_str)) dss_nil)
    (dss_cons (ds_if (dt_nin (hu65_of hr) (de_var (pv 4)) (de_var (pv 0))) (dss_one (ds_ret de_str)) dss_nil)
    (dss_cons (ds_if (dt_bool (dw_and (dt_inG (hu65_of hr) T.c_TAKING (by rfl) (de_var (pv 4))) (dw_and1 (dt_eq hr.units (de_lenN (pv 2) (by rfl) T.n_len) de_int)))) (dss_one (ds_ret de_str)) dss_nil)
    (dss_one (ds_ret de_non)))))))
theorem dss_is_built_as_deed (T : Txt K mg)  {cdv : Value} {A : Around} {outer : List Env} {s : Shared} {H : Hp} {E : XK} {B : Bs} (hr : Room 0 (A.deeper (envOfC "_is_built_as_deed" (defScope s_is_built_as_deed) s.heap.objs.size T.a_is_built_as_deed cdv))) :
    DSs (cxOf CX0 P w K mg base N_is_built_as_deed "_is_built_as_deed" (defScope s_is_built_as_deed) T.a_is_built_as_deed cdv A outer s H E).nox B (defBody s_is_built_as_deed) wb_is_built_as_deed :=
  (dss_cons (ds_if (dt_bool (dw_or (dt_not (dt_val (de_callB snd_isi call_isi (by rfl) T.n_isinstance (by decide +kernel) (da_cons (de_var (pv 0)) (da_cons (de_ty (by rfl) T.n_tuple (by decide +kernel)) da_nil))))) (dw_or (dt_eq hr.units (de_lenN (pv 0) (by rfl) T.n_len) de_int) (dw_or1 (dt_ninG (hu65_of hr) T.c_WORDS (by rfl) (de_ixN (pv 0) de_int (fun _ _ => rfl))))))) (dss_one (ds_ret de_bl)) dss_nil)
    (dss_one (ds_ret (de_eq hr.units (de_lenN (pv 0) (by rfl) T.n_len) (de_if (dt_inG (hu65_of hr) T.c_PUTTING (by rfl) (de_ixN (pv 0) de_int (fun _ _ => rfl))) de_int de_int)))))
theorem dss_open_deeds (T : Txt K mg) (G_deeds_of : ok_deeds_of P w base T) (G_deed_error : ok_deed_error P w base T) {cdv : Value} {A : Around} {outer : List Env} {s : Shared} {H : Hp} {E : XK} {B : Bs} (hr : Room 3 (A.deeper (envOfC "open_deeds" (defScope s_open_deeds) s.heap.objs.size T.a_open_deeds cdv))) :
    DSs (cxOf CX0 P w K mg base N_open_deeds "open_deeds" (defScope s_open_deeds) T.a_open_deeds cdv A outer s H E).nox B (defBody s_open_deeds) wb_open_deeds :=
  (dss_one (ds_ret (de_callTy snd_tuple call_tuple_of (by rfl) T.n_tuple (by decide +kernel) (da_cons (de_lc (own := [("deed", 3)]) (vs := [3]) rfl (by simp) (pe_lc (own := [("deed", 3)]) rfl sc_open_deeds.nd (di_seq (de_call (pe_call G_deeds_of (hr.mono (by decide)) (by rfl) T.g_deeds_of T.F_deeds_of.kp T.b_deeds_of .nil pass0 (da_cons (de_var (pv 0)) (da_cons (de_var (pv 1)) da_nil))))) (blkOk_by (own := [("deed", 3)]) (N := N_open_deeds) (sc := defScope s_open_deeds) (by decide +kernel)) (fun _ _ _ _ _ => (dg_name (pg_name (i := 3) sc_open_deeds.nd rfl (Or.inl rfl)))) (fun _ _ _ _ _ => (dts_one (dt_isN (de_call (pe_call G_deed_error (hr.mono (by decide)) (by rfl) T.g_deed_error T.F_deed_error.kp T.b_deed_error .nil pass0 (da_cons (de_var (pv 0)) (da_cons (de_var (pv 1)) (da_cons (de_var (pv 2)) (da_cons (de_var (pv 3)) da_nil)))))) de_non))) (fun _ _ _ _ _ => (de_var (pv 3))))) da_nil))))
theorem dss_behind (T : Txt K mg)  {cdv : Value} {A : Around} {outer : List Env} {s : Shared} {H : Hp} {E : XK} {B : Bs} (hr : Room 0 (A.deeper (envOfC "_behind" (defScope s_behind) s.heap.objs.size T.a_behind cdv))) :
    DSs (cxOf CX0 P w K mg base N_behind "_behind" (defScope s_behind) T.a_behind cdv A outer s H E).nox B (defBody s_behind) wb_behind :=
  (dss_cons (ds_set (ps_set (i := 2) sc_behind.nd rfl (Or.inl rfl) (de_ixN (pv 1) de_int (fun _ _ => rfl))))
    (dss_cons (ds_if (dt_eq hr.units (de_var (pv 2)) de_str) (dss_one (ds_ret (de_add (de_tup (da_cons (de_ixN (pv 1) de_int (fun _ _ => rfl)) da_nil)) (de_var (pv 0))))) dss_nil)
    (dss_cons (ds_if (dt_eq hr.units (de_var (pv 2)) de_str) (dss_one (ds_ret (de_add (de_var (pv 0)) (de_tup (da_cons (de_ixN (pv 1) de_int (fun _ _ => rfl)) da_nil))))) dss_nil)
    (dss_cons (ds_if (dt_eq hr.units (de_var (pv 2)) de_str) (dss_one (ds_ret (de_add (de_slice (de_var (pv 0)) (do_some de_int) do_none) (de_tup (da_cons (de_ixN (pv 1) de_int (fun _ _ => rfl)) da_nil))))) dss_nil)
    (dss_cons (ds_if (dt_eq hr.units (de_var (pv 2)) de_str) (dss_one (ds_ret (de_slice (de_var (pv 0)) (do_some de_int) do_none))) dss_nil)
    (dss_one (ds_ret (de_slice (de_var (pv 0)) do_none (do_some (de_neg de_int))))))))))
theorem dss_led (T : Txt K mg) (G_deed_error : ok_deed_error P w base T) (G_behind : ok_behind P w base T) {cdv : Value} {A : Around} {outer : List Env} {s : Shared} {H : Hp} {E : XK} {B : Bs} (hr : Room 3 (A.deeper (envOfC "led" (defScope s_led) s.heap.objs.size T.a_led cdv))) :
    DSs (cxOf CX0 P w K mg base N_led "led" (defScope s_led) T.a_led cdv A outer s H E).nox B (defBody s_led) wb_led :=
  (dss_cons (ds_if (dt_gt (de_lenN (pv 3) (by rfl) T.n_len) (de_glob (by rfl) T.c_MAX_DEEDS (by decide))) (dss_one ds_never) dss_nil)
    (dss_cons (ds_set (ps_set (i := 4) sc_led.nd rfl (Or.inl rfl) (de_var (pv 2))))
    (dss_cons (ds_for PassesOwn.never rfl (di_enum (pi_enumA (by rfl) T.n_enumerate (da_cons (de_var (pv 3)) da_nil))) (dg_tup (pg_tup rfl (dgs_cons (dg_name (pg_name (i := 5) sc_led.nd rfl (Or.inl rfl))) (dgs_cons (dg_name (pg_name (i := 6) sc_led.nd rfl (Or.inl rfl))) dgs_nil (pgs_cons (dg_name (pg_name (i := 6) sc_led.nd rfl (Or.inl rfl))) dgs_nil)) (pgs_cons (dg_name (pg_name (i := 5) sc_led.nd rfl (Or.inl rfl))) (dgs_cons (dg_name (pg_name (i := 6) sc_led.nd rfl (Or.inl rfl))) dgs_nil (pgs_cons (dg_name (pg_name (i := 6) sc_led.nd rfl (Or.inl rfl))) dgs_nil)))))) (dss_cons (ds_if (dt_notN (de_call (pe_call G_deed_error (hr.mono (by decide)) (by rfl) T.g_deed_error T.F_deed_error.kp T.b_deed_error .nil pass0 (da_cons (de_var (pv 0)) (da_cons (de_var (pv 1)) (da_cons (de_var (pv 4)) (da_cons (de_var (pv 6)) da_nil)))))) de_non) (dss_one ds_never) dss_nil)
    (dss_one (ds_set (ps_set (i := 4) sc_led.nd rfl (Or.inl rfl) (de_call (pe_call G_behind (hr.mono (by decide)) (by rfl) T.g_behind T.F_behind.kp T.b_behind .nil pass0 (da_cons (de_var (pv 4)) (da_cons (de_var (pv 6)) da_nil)))))))))
    (dss_one (ds_ret (de_var (pv 4)))))))
theorem dss_law_pick (T : Txt K mg) (G_law_draw : ok_law_draw P w base T) {cdv : Value} {A : Around} {outer : List Env} {s : Shared} {H : Hp} {E : XK} {B : Bs} (hr : Room 1 (A.deeper (envOfC "_law_pick" (defScope s_law_pick) s.heap.objs.size T.a_law_pick cdv))) :
    DSs (cxOf CX0 P w K mg base N_law_pick "_law_pick" (defScope s_law_pick) T.a_law_pick cdv A outer s H E).nox B (defBody s_law_pick) wb_law_pick :=
  (dss_one (ds_ret (de_ixN (pv 1) (de_call (pe_call G_law_draw (hr.mono (by decide)) (by rfl) T.g_law_draw T.F_law_draw.kp T.b_law_draw .nil pass0 (da_cons (de_var (pv 0)) (da_cons (de_lenN (pv 1) (by rfl) T.n_len) da_nil)))) (fun _ _ => rfl))))
theorem dss_law_letters (T : Txt K mg) (G_law_draw : ok_law_draw P w base T) {cdv : Value} {A : Around} {outer : List Env} {s : Shared} {H : Hp} {E : XK} {B : Bs} (hr : Room 1 (A.deeper (envOfC "_law_letters" (defScope s_law_letters) s.heap.objs.size T.a_law_letters cdv))) :
    DSs (cxOf CX0 P w K mg base N_law_letters "_law_letters" (defScope s_law_letters) T.a_law_letters cdv A outer s H E).nox B (defBody s_law_letters) wb_law_letters :=
  (dss_one (ds_ret (de_callTy snd_tuple call_tuple_of (by rfl) T.n_tuple (by decide +kernel) (da_cons (de_lc (own := [("place", 3)]) (vs := [3]) rfl (by simp) (pe_lc (own := [("place", 3)]) rfl sc_law_letters.nd (di_r1 (by rfl) T.n_range (da_cons (de_var (pv 2)) da_nil)) (blkOk_by (own := [("place", 3)]) (N := N_law_letters) (sc := defScope s_law_letters) (by decide +kernel)) (fun _ _ _ _ _ => (dg_name (pg_name (i := 3) sc_law_letters.nd rfl (Or.inl rfl)))) (fun _ _ _ _ _ => dts_nil) (fun _ _ _ _ _ => (de_call (pe_call G_law_draw (hr.mono (by decide)) (by rfl) T.g_law_draw T.F_law_draw.kp T.b_law_draw .nil pass0 (da_cons (de_var (pv 0)) (da_cons (de_var (pv 1)) da_nil))))))) da_nil))))
theorem dss_law_row (T : Txt K mg) (G_law_letters : ok_law_letters P w base T) (G_law_draw : ok_law_draw P w base T) {cdv : Value} {A : Around} {outer : List Env} {s : Shared} {H : Hp} {E : XK} {B : Bs} (hr : Room 2 (A.deeper (envOfC "_law_row" (defScope s_law_row) s.heap.objs.size T.a_law_row cdv))) :
    DSs (cxOf CX0 P w K mg base N_law_row "_law_row" (defScope s_law_row) T.a_law_row cdv A outer s H E).nox B (defBody s_law_row) wb_law_row :=
  (dss_one (ds_ret (de_call (pe_call G_law_letters (hr.mono (by decide)) (by rfl) T.g_law_letters T.F_law_letters.kp T.b_law_letters .nil pass0 (da_cons (de_var (pv 0)) (da_cons (de_var (pv 1)) (da_cons (de_call (pe_call G_law_draw (hr.mono (by decide)) (by rfl) T.g_law_draw T.F_law_draw.kp T.b_law_draw .nil pass0 (da_cons (de_var (pv 0)) (da_cons (de_add (de_var (pv 2)) de_int) da_nil)))) da_nil)))))))
theorem dss_law_words (T : Txt K mg)  {cdv : Value} {A : Around} {outer : List Env} {s : Shared} {H : Hp} {E : XK} {B : Bs} (hr : Room 0 (A.deeper (envOfC "_law_words" (defScope s_law_words) s.heap.objs.size T.a_law_words cdv))) :
    DSs (cxOf CX0 P w K mg base N_law_words "_law_words" (defScope s_law_words) T.a_law_words cdv A outer s H E).nox B (defBody s_law_words) wb_law_words :=
  (dss_one (ds_ret (de_tup (da_cons de_str (da_cons de_str (da_cons de_str (da_cons de_str da_nil)))))))
theorem dss_law_books (T : Txt K mg) (G_law_words : ok_law_words P w base T) {cdv : Value} {A : Around} {outer : List Env} {s : Shared} {H : Hp} {E : XK} {B : Bs} (hr : Room 1 (A.deeper (envOfC "_law_books" (defScope s_law_books) s.heap.objs.size T.a_law_books cdv))) :
    DSs (cxOf CX0 P w K mg base N_law_books "_law_books" (defScope s_law_books) T.a_law_books cdv A outer s H E).nox B (defBody s_law_books) wb_law_books :=
  (dss_cons (ds_set (ps_set (i := 0) sc_law_books.nd rfl (Or.inl rfl) (de_lst (da_cons (de_tup (da_cons de_str da_nil)) da_nil))))
    (dss_cons (ds_for PassesOwn.never rfl (di_r1 (by rfl) T.n_range (da_cons de_int da_nil)) (dg_name (pg_name (i := 1) sc_law_books.nd rfl (Or.inr rfl))) (dss_one (ds_expr (de_app (pe_bm PySem.F.plainAttrs_list PySem.F.slot_list_append PySem.F.type_list_append mt_append (pv 0) (pa_cons (de_callTy snd_tuple call_tuple_of (by rfl) T.n_tuple (by decide +kernel) (da_cons (de_lc (own := [("spot", 2), ("word", 3)]) (vs := [2, 3]) rfl (by simp) (pe_lc (own := [("spot", 2), ("word", 3)]) rfl sc_law_books.nd (di_enum (pi_enumA (by rfl) T.n_enumerate (da_cons (de_call0 (pe_call0 G_law_words (hr.mono (by decide)) (by rfl) T.g_law_words T.F_law_words.kp T.b_law_words .nil pass0)) da_nil))) (blkOk_by (own := [("spot", 2), ("word", 3)]) (N := N_law_books) (sc := defScope s_law_books) (by decide +kernel)) (fun _ _ _ _ _ => (dg_tup (pg_tup rfl (dgs_cons (dg_name (pg_name (i := 2) sc_law_books.nd rfl (Or.inl rfl))) (dgs_cons (dg_name (pg_name (i := 3) sc_law_books.nd rfl (Or.inl rfl))) dgs_nil (pgs_cons (dg_name (pg_name (i := 3) sc_law_books.nd rfl (Or.inl rfl))) dgs_nil)) (pgs_cons (dg_name (pg_name (i := 2) sc_law_books.nd rfl (Or.inl rfl))) (dgs_cons (dg_name (pg_name (i := 3) sc_law_books.nd rfl (Or.inl rfl))) dgs_nil (pgs_cons (dg_name (pg_name (i := 3) sc_law_books.nd rfl (Or.inl rfl))) dgs_nil))))))) (fun _ _ _ _ _ => (dts_one (dt_eq hr.units (de_mod (de_div (de_var (pv 1)) (de_ix (de_lst (da_cons de_int (da_cons de_int (da_cons de_int (da_cons de_int da_nil))))) (de_var (pv 2)) (fun _ _ => rfl))) de_int) de_int))) (fun _ _ _ _ _ => (de_var (pv 3))))) da_nil)) pa_nil))))))
    (dss_one (ds_ret (de_callB snd_sorted (call_sortD (Nat.lt_of_succ_lt (hu65_of hr))) (by rfl) T.n_sorted (by decide +kernel) (da_cons (de_var (pv 0)) da_nil))))))
theorem dss_law_deeds (T : Txt K mg)  {cdv : Value} {A : Around} {outer : List Env} {s : Shared} {H : Hp} {E : XK} {B : Bs} (hr : Room 0 (A.deeper (envOfC "_law_deeds" (defScope s_law_deeds) s.heap.objs.size T.a_law_deeds cdv))) :
    DSs (cxOf CX0 P w K mg base N_law_deeds "_law_deeds" (defScope s_law_deeds) T.a_law_deeds cdv A outer s H E).nox B (defBody s_law_deeds) wb_law_deeds :=
  (dss_cons (ds_set (ps_set (i := 2) sc_law_deeds.nd rfl (Or.inl rfl) (de_lst da_nil)))
    (dss_cons (ds_for PassesOwn.never rfl (di_seq (de_var (pv 0))) (dg_name (pg_name (i := 3) sc_law_deeds.nd rfl (Or.inr rfl))) (dss_one (ds_if (dt_in (hu65_of hr) (de_var (pv 3)) (de_tup (da_cons de_str (da_cons de_str da_nil)))) (dss_one (ds_expr (de_app (pe_bm PySem.F.plainAttrs_list PySem.F.slot_list_append PySem.F.type_list_append mt_append (pv 2) (pa_cons (de_tup (da_cons (de_var (pv 3)) da_nil)) pa_nil))))) (dss_one (ds_expr (de_ext (pe_bm PySem.F.plainAttrs_list PySem.F.slot_list_extend PySem.F.type_list_extend mt_extend (pv 2) (pa_cons (de_lc (own := [("letter", 4)]) (vs := [4]) rfl (by simp) (pe_lc (own := [("letter", 4)]) rfl sc_law_deeds.nd (di_r1 (by rfl) T.n_range (da_cons (de_var (pv 1)) da_nil)) (blkOk_by (own := [("letter", 4)]) (N := N_law_deeds) (sc := defScope s_law_deeds) (by decide +kernel)) (fun _ _ _ _ _ => (dg_name (pg_name (i := 4) sc_law_deeds.nd rfl (Or.inl rfl)))) (fun _ _ _ _ _ => dts_nil) (fun _ _ _ _ _ => (de_tup (da_cons (de_var (pv 3)) (da_cons (de_var (pv 4)) da_nil)))))) pa_nil))))))))
    (dss_one (ds_ret (de_callB snd_sorted (call_sortD (Nat.lt_of_succ_lt (hu65_of hr))) (by rfl) T.n_sorted (by decide +kernel) (da_cons (de_var (pv 2)) da_nil))))))
theorem dss_law_open (T : Txt K mg) (G_law_deeds : ok_law_deeds P w base T) {cdv : Value} {A : Around} {outer : List Env} {s : Shared} {H : Hp} {E : XK} {B : Bs} (hr : Room 1 (A.deeper (envOfC "_law_open" (defScope s_law_open) s.heap.objs.size T.a_law_open cdv))) :
    DSs (cxOf CX0 P w K mg base N_law_open "_law_open" (defScope s_law_open) T.a_law_open cdv A outer s H E).nox B (defBody s_law_open) wb_law_open :=
  (dss_one (ds_ret (de_lc (own := [("deed", 3)]) (vs := [3]) rfl (by simp) (pe_lc (own := [("deed", 3)]) rfl sc_law_open.nd (di_seq (de_call (pe_call G_law_deeds (hr.mono (by decide)) (by rfl) T.g_law_deeds T.F_law_deeds.kp T.b_law_deeds .nil pass0 (da_cons (de_var (pv 0)) (da_cons (de_var (pv 1)) da_nil))))) (blkOk_by (own := [("deed", 3)]) (N := N_law_open) (sc := defScope s_law_open) (by decide +kernel)) (fun _ _ _ _ _ => (dg_name (pg_name (i := 3) sc_law_open.nd rfl (Or.inl rfl)))) (fun _ _ _ _ _ => (dts_one (dt_bool (dw_or (dt_ne hr.units (de_var (pv 2)) (de_tup da_nil)) (dw_or1 (dt_in (hu65_of hr) (de_ixN (pv 3) de_int (fun _ _ => rfl)) (de_tup (da_cons de_str (da_cons de_str da_nil))))))))) (fun _ _ _ _ _ => (de_var (pv 3)))))))
theorem dss_law_behind (T : Txt K mg)  {cdv : Value} {A : Around} {outer : List Env} {s : Shared} {H : Hp} {E : XK} {B : Bs} (hr : Room 0 (A.deeper (envOfC "_law_behind" (defScope s_law_behind) s.heap.objs.size T.a_law_behind cdv))) :
    DSs (cxOf CX0 P w K mg base N_law_behind "_law_behind" (defScope s_law_behind) T.a_law_behind cdv A outer s H E).nox B (defBody s_law_behind) wb_law_behind :=
  (dss_cons (ds_if (dt_eq hr.units (de_ixN (pv 1) de_int (fun _ _ => rfl)) de_str) (dss_one (ds_ret (de_add (de_tup (da_cons (de_ixN (pv 1) de_int (fun _ _ => rfl)) da_nil)) (de_var (pv 0))))) dss_nil)
    (dss_cons (ds_if (dt_eq hr.units (de_ixN (pv 1) de_int (fun _ _ => rfl)) de_str) (dss_one (ds_ret (de_add (de_var (pv 0)) (de_tup (da_cons (de_ixN (pv 1) de_int (fun _ _ => rfl)) da_nil))))) dss_nil)
    (dss_cons (ds_if (dt_eq hr.units (de_ixN (pv 1) de_int (fun _ _ => rfl)) de_str) (dss_one (ds_ret (de_slice (de_var (pv 0)) (do_some de_int) do_none))) dss_nil)
    (dss_one (ds_ret (de_if (dt_eq hr.units (de_ixN (pv 1) de_int (fun _ _ => rfl)) de_str) (de_slice (de_var (pv 0)) do_none (do_some (de_neg de_int))) (de_add (de_slice (de_var (pv 0)) (do_some de_int) do_none) (de_tup (da_cons (de_ixN (pv 1) de_int (fun _ _ => rfl)) da_nil)))))))))
theorem dss_law_walk (T : Txt K mg) (G_law_open : ok_law_open P w base T) (G_law_pick : ok_law_pick P w base T) (G_law_draw : ok_law_draw P w base T) (G_law_behind : ok_law_behind P w base T) {cdv : Value} {A : Around} {outer : List Env} {s : Shared} {H : Hp} {E : XK} {B : Bs} (hr : Room 2 (A.deeper (envOfC "_law_walk" (defScope s_law_walk) s.heap.objs.size T.a_law_walk cdv))) :
    DSs (cxOf CX0 P w K mg base N_law_walk "_law_walk" (defScope s_law_walk) T.a_law_walk cdv A outer s H E).nox B (defBody s_law_walk) wb_law_walk :=
  (dss_cons (ds_par2c (ps_asg (pe_tup (da_cons (de_lst da_nil) (da_cons (de_lst da_nil) da_nil))) (pg_tup rfl (pgs_cons (pg_name (i := 6) sc_law_walk.nd rfl (Or.inl rfl)) (pgs_cons (pg_name (i := 7) sc_law_walk.nd rfl (Or.inr rfl)) pgs_nil)))))
    (dss_cons (ds_for PassesOwn.never rfl (di_r1 (by rfl) T.n_range (da_cons (de_var (pv 4)) da_nil)) (dg_name (pg_name (i := 5) sc_law_walk.nd rfl (Or.inl rfl))) (dss_cons (ds_set (ps_set (i := 8) sc_law_walk.nd rfl (Or.inl rfl) (de_call (pe_call G_law_open (hr.mono (by decide)) (by rfl) T.g_law_open T.F_law_open.kp T.b_law_open .nil pass0 (da_cons (de_var (pv 1)) (da_cons (de_var (pv 2)) (da_cons (de_var (pv 3)) da_nil)))))))
    (dss_cons (ds_if (dt_eq hr.units (de_var (pv 8)) (de_lst da_nil)) (dss_one (ds_ret (de_callTy snd_tuple call_tuple_of (by rfl) T.n_tuple (by decide +kernel) (da_cons (de_var (pv 6)) da_nil)))) dss_nil)
    (dss_cons (ds_setLc (own := [("deed", 10)]) (vs := [10]) rfl (by simp) (ps_setLc (i := 9) (own := [("deed", 10)]) rfl sc_law_walk.nd rfl rfl (sw_true rfl rfl rfl (by decide +kernel)) (di_seq (de_var (pv 8))) (blkOk_by (own := [("deed", 10)]) (N := N_law_walk) (sc := defScope s_law_walk) (by decide +kernel)) (fun _ _ _ _ _ => (dg_name (pg_name (i := 10) sc_law_walk.nd rfl (Or.inl rfl)))) (fun _ _ _ _ _ => (dts_one (dt_bool (dw_and (dt_ne hr.units (de_var (pv 7)) (de_lst da_nil)) (dw_and1 (dt_eq hr.units (de_ixN (pv 10) de_int (fun _ _ => rfl)) (de_ixN (pv 7) de_int (fun _ _ => rfl)))))))) (fun _ _ _ _ _ => (de_var (pv 10)))))
    (dss_cons (ds_set (ps_set (i := 10) sc_law_walk.nd rfl (Or.inl rfl) (de_call (pe_call G_law_pick (hr.mono (by decide)) (by rfl) T.g_law_pick T.F_law_pick.kp T.b_law_pick .nil pass0 (da_cons (de_var (pv 0)) (da_cons (de_if (dt_bool (dw_and (dt_ne hr.units (de_var (pv 9)) (de_lst da_nil)) (dw_and1 (dt_gt (de_call (pe_call G_law_draw (hr.mono (by decide)) (by rfl) T.g_law_draw T.F_law_draw.kp T.b_law_draw .nil pass0 (da_cons (de_var (pv 0)) (da_cons de_int da_nil)))) de_int)))) (de_var (pv 9)) (de_var (pv 8))) da_nil))))))
    (dss_cons (ds_set (ps_set (i := 7) sc_law_walk.nd rfl (Or.inr rfl) (de_lst (da_cons (de_ixN (pv 10) de_int (fun _ _ => rfl)) da_nil))))
    (dss_cons (ds_expr (de_app (pe_bm PySem.F.plainAttrs_list PySem.F.slot_list_append PySem.F.type_list_append mt_append (pv 6) (pa_cons (de_var (pv 10)) pa_nil))))
    (dss_one (ds_set (ps_set (i := 3) sc_law_walk.nd rfl (Or.inl rfl) (de_call (pe_call G_law_behind (hr.mono (by decide)) (by rfl) T.g_law_behind T.F_law_behind.kp T.b_law_behind .nil pass0 (da_cons (de_var (pv 3)) (da_cons (de_var (pv 10)) da_nil))))))))))))))
    (dss_one (ds_ret (de_callTy snd_tuple call_tuple_of (by rfl) T.n_tuple (by decide +kernel) (da_cons (de_var (pv 6)) da_nil))))))
theorem dss_law_record (T : Txt K mg)  {cdv : Value} {A : Around} {outer : List Env} {s : Shared} {H : Hp} {E : XK} {B : Bs} (hr : Room 0 (A.deeper (envOfC "_law_record" (defScope s_law_record) s.heap.objs.size T.a_law_record cdv))) :
    DSs (cxOf CX0 P w K mg base N_law_record "_law_record" (defScope s_law_record) T.a_law_record cdv A outer s H E).nox B (defBody s_law_record) wb_law_record :=
  (dss_cons (ds_asg (ps_asg (de_tup (da_cons (de_lst da_nil) (da_cons de_int (da_cons (de_lenN (pv 0) (by rfl) T.n_len) (da_cons (de_lst da_nil) da_nil))))) (dg_tup (pg_tup rfl (dgs_cons (dg_name (pg_name (i := 3) sc_law_record.nd rfl (Or.inl rfl))) (dgs_cons (dg_name (pg_name (i := 4) sc_law_record.nd rfl (Or.inl rfl))) (dgs_cons (dg_name (pg_name (i := 5) sc_law_record.nd rfl (Or.inl rfl))) (dgs_cons (dg_name (pg_name (i := 6) sc_law_record.nd rfl (Or.inl rfl))) dgs_nil (pgs_cons (dg_name (pg_name (i := 6) sc_law_record.nd rfl (Or.inl rfl))) dgs_nil)) (pgs_cons (dg_name (pg_name (i := 5) sc_law_record.nd rfl (Or.inl rfl))) (dgs_cons (dg_name (pg_name (i := 6) sc_law_record.nd rfl (Or.inl rfl))) dgs_nil (pgs_cons (dg_name (pg_name (i := 6) sc_law_record.nd rfl (Or.inl rfl))) dgs_nil)))) (pgs_cons (dg_name (pg_name (i := 4) sc_law_record.nd rfl (Or.inl rfl))) (dgs_cons (dg_name (pg_name (i := 5) sc_law_record.nd rfl (Or.inl rfl))) (dgs_cons (dg_name (pg_name (i := 6) sc_law_record.nd rfl (Or.inl rfl))) dgs_nil (pgs_cons (dg_name (pg_name (i := 6) sc_law_record.nd rfl (Or.inl rfl))) dgs_nil)) (pgs_cons (dg_name (pg_name (i := 5) sc_law_record.nd rfl (Or.inl rfl))) (dgs_cons (dg_name (pg_name (i := 6) sc_law_record.nd rfl (Or.inl rfl))) dgs_nil (pgs_cons (dg_name (pg_name (i := 6) sc_law_record.nd rfl (Or.inl rfl))) dgs_nil)))))) (pgs_cons (dg_name (pg_name (i := 3) sc_law_record.nd rfl (Or.inl rfl))) (dgs_cons (dg_name (pg_name (i := 4) sc_law_record.nd rfl (Or.inl rfl))) (dgs_cons (dg_name (pg_name (i := 5) sc_law_record.nd rfl (Or.inl rfl))) (dgs_cons (dg_name (pg_name (i := 6) sc_law_record.nd rfl (Or.inl rfl))) dgs_nil (pgs_cons (dg_name (pg_name (i := 6) sc_law_record.nd rfl (Or.inl rfl))) dgs_nil)) (pgs_cons (dg_name (pg_name (i := 5) sc_law_record.nd rfl (Or.inl rfl))) (dgs_cons (dg_name (pg_name (i := 6) sc_law_record.nd rfl (Or.inl rfl))) dgs_nil (pgs_cons (dg_name (pg_name (i := 6) sc_law_record.nd rfl (Or.inl rfl))) dgs_nil)))) (pgs_cons (dg_name (pg_name (i := 4) sc_law_record.nd rfl (Or.inl rfl))) (dgs_cons (dg_name (pg_name (i := 5) sc_law_record.nd rfl (Or.inl rfl))) (dgs_cons (dg_name (pg_name (i := 6) sc_law_record.nd rfl (Or.inl rfl))) dgs_nil (pgs_cons (dg_name (pg_name (i := 6) sc_law_record.nd rfl (Or.inl rfl))) dgs_nil)) (pgs_cons (dg_name (pg_name (i := 5) sc_law_record.nd rfl (Or.inl rfl))) (dgs_cons (dg_name (pg_name (i := 6) sc_law_record.nd rfl (Or.inl rfl))) dgs_nil (pgs_cons (dg_name (pg_name (i := 6) sc_law_record.nd rfl (Or.inl rfl))) dgs_nil))))))))))))
    (dss_cons (ds_for PassesOwn.never rfl (di_seq (de_var (pv 1))) (dg_name (pg_name (i := 2) sc_law_record.nd rfl (Or.inl rfl))) (dss_one (ds_if (dt_eq hr.units (de_ixN (pv 2) de_int (fun _ _ => rfl)) de_str) (dss_one (ds_set (ps_set (i := 3) sc_law_record.nd rfl (Or.inl rfl) (de_add (de_lst (da_cons (de_ixN (pv 2) de_int (fun _ _ => rfl)) da_nil)) (de_var (pv 3)))))) (dss_one (ds_if (dt_eq hr.units (de_ixN (pv 2) de_int (fun _ _ => rfl)) de_str) (dss_one (ds_set (ps_set (i := 6) sc_law_record.nd rfl (Or.inl rfl) (de_add (de_var (pv 6)) (de_lst (da_cons (de_ixN (pv 2) de_int (fun _ _ => rfl)) da_nil)))))) (dss_one (ds_if (dt_eq hr.units (de_ixN (pv 2) de_int (fun _ _ => rfl)) de_str) (dss_one (ds_if (dt_ne hr.units (de_var (pv 3)) (de_lst da_nil)) (dss_one (ds_set (ps_set (i := 3) sc_law_record.nd rfl (Or.inl rfl) (de_slice (de_var (pv 3)) (do_some de_int) do_none)))) (dss_one (ds_if (dt_lt (de_var (pv 4)) (de_var (pv 5))) (dss_one (ds_set (ps_set (i := 4) sc_law_record.nd rfl (Or.inl rfl) (de_add (de_var (pv 4)) de_int)))) (dss_one (ds_set (ps_set (i := 6) sc_law_record.nd rfl (Or.inl rfl) (de_slice (de_var (pv 6)) (do_some de_int) do_none)))))))) (dss_one (ds_if (dt_ne hr.units (de_var (pv 6)) (de_lst da_nil)) (dss_one (ds_set (ps_set (i := 6) sc_law_record.nd rfl (Or.inl rfl) (de_slice (de_var (pv 6)) do_none (do_some (de_neg de_int)))))) (dss_one (ds_if (dt_lt (de_var (pv 4)) (de_var (pv 5))) (dss_one (ds_set (ps_set (i := 5) sc_law_record.nd rfl (Or.inl rfl) (de_sub (de_var (pv 5)) de_int)))) (dss_one (ds_set (ps_set (i := 3) sc_law_record.nd rfl (Or.inl rfl) (de_slice (de_var (pv 3)) do_none (do_some (de_neg de_int)))))))))))))))))
    (dss_one (ds_ret (de_tup (da_cons (de_var (pv 3)) (da_cons (de_slice (de_var (pv 0)) (do_some (de_var (pv 4))) (do_some (de_var (pv 5)))) (da_cons (de_var (pv 6)) da_nil))))))))
theorem dss_law_relettered (T : Txt K mg) (G_law_draw : ok_law_draw P w base T) {cdv : Value} {A : Around} {outer : List Env} {s : Shared} {H : Hp} {E : XK} {B : Bs} (hr : Room 1 (A.deeper (envOfC "_law_relettered" (defScope s_law_relettered) s.heap.objs.size T.a_law_relettered cdv))) :
    DSs (cxOf CX0 P w K mg base N_law_relettered "_law_relettered" (defScope s_law_relettered) T.a_law_relettered cdv A outer s H E).nox B (defBody s_law_relettered) wb_law_relettered :=
  (dss_one (ds_ret (de_callTy snd_tuple call_tuple_of (by rfl) T.n_tuple (by decide +kernel) (da_cons (de_lc (own := [("deed", 3)]) (vs := [3]) rfl (by simp) (pe_lc (own := [("deed", 3)]) rfl sc_law_relettered.nd (di_seq (de_var (pv 2))) (blkOk_by (own := [("deed", 3)]) (N := N_law_relettered) (sc := defScope s_law_relettered) (by decide +kernel)) (fun _ _ _ _ _ => (dg_name (pg_name (i := 3) sc_law_relettered.nd rfl (Or.inl rfl)))) (fun _ _ _ _ _ => dts_nil) (fun _ _ _ _ _ => (de_if (dt_eq hr.units (de_lenN (pv 3) (by rfl) T.n_len) de_int) (de_tup (da_cons (de_ixN (pv 3) de_int (fun _ _ => rfl)) (da_cons (de_call (pe_call G_law_draw (hr.mono (by decide)) (by rfl) T.g_law_draw T.F_law_draw.kp T.b_law_draw .nil pass0 (da_cons (de_var (pv 0)) (da_cons (de_var (pv 1)) da_nil)))) da_nil))) (de_var (pv 3)))))) da_nil))))
theorem dss_law_slid (T : Txt K mg)  {cdv : Value} {A : Around} {outer : List Env} {s : Shared} {H : Hp} {E : XK} {B : Bs} (hr : Room 0 (A.deeper (envOfC "_law_slid" (defScope s_law_slid) s.heap.objs.size T.a_law_slid cdv))) :
    DSs (cxOf CX0 P w K mg base N_law_slid "_law_slid" (defScope s_law_slid) T.a_law_slid cdv A outer s H E).nox B (defBody s_law_slid) wb_law_slid :=
  (dss_one (ds_ret (de_add (de_slice (de_var (pv 0)) (do_some (de_lenN (pv 1) (by rfl) T.n_len)) do_none) (de_callTy snd_tuple call_tuple_of (by rfl) T.n_tuple (by decide +kernel) (da_cons (de_lc (own := [("deed", 2)]) (vs := [2]) rfl (by simp) (pe_lc (own := [("deed", 2)]) rfl sc_law_slid.nd (di_seq (de_var (pv 1))) (blkOk_by (own := [("deed", 2)]) (N := N_law_slid) (sc := defScope s_law_slid) (by decide +kernel)) (fun _ _ _ _ _ => (dg_name (pg_name (i := 2) sc_law_slid.nd rfl (Or.inl rfl)))) (fun _ _ _ _ _ => dts_nil) (fun _ _ _ _ _ => (de_ixN (pv 2) de_int (fun _ _ => rfl))))) da_nil)))))
theorem dss_law_is_left (T : Txt K mg) (G_led : ok_led P w base T) (G_law_slid : ok_law_slid P w base T) (G_law_record : ok_law_record P w base T) (G_law_relettered : ok_law_relettered P w base T) (G_law_letters : ok_law_letters P w base T) (G_open_deeds : ok_open_deeds P w base T) {cdv : Value} {A : Around} {outer : List Env} {s : Shared} {H : Hp} {E : XK} {B : Bs} (hr : Room 4 (A.deeper (envOfC "_law_is_left" (defScope s_law_is_left) s.heap.objs.size T.a_law_is_left cdv))) (hg : (A.deeper (envOfC "_law_is_left" (defScope s_law_is_left) s.heap.objs.size T.a_law_is_left cdv)).guards = some []) :
    DSs (cxOf CX0 P w K mg base N_law_is_left "_law_is_left" (defScope s_law_is_left) T.a_law_is_left cdv A outer s H E).nox B (defBody s_law_is_left) wb_law_is_left :=
  (dss_cons (ds_par2 (i := 6) (j := 7) (ps_par rfl sc_law_is_left.nd rfl rfl (by decide) rfl rfl (da_cons (de_call (pe_call G_led (hr.mono (by decide)) (by rfl) T.g_led T.F_led.kp T.b_led .nil pass0 (da_cons (de_var (pv 1)) (da_cons (de_var (pv 2)) (da_cons (de_var (pv 3)) (da_cons (de_var (pv 4)) da_nil)))))) (da_cons (de_callB snd_reprR (call_reprR hg (Nat.lt_of_succ_lt (hu65_of hr))) (by rfl) T.n_repr (by decide +kernel) (da_cons (de_lst (da_cons (de_var (pv 3)) (da_cons (de_var (pv 4)) da_nil))) da_nil)) da_nil)) (by rfl)))
    (dss_cons (ds_if (dt_eq hr.units (de_var (pv 1)) (de_tup (da_cons de_str da_nil))) (dss_one (ds_set (ps_set (i := 8) sc_law_is_left.nd rfl (Or.inl rfl) (de_call (pe_call G_law_slid (hr.mono (by decide)) (by rfl) T.g_law_slid T.F_law_slid.kp T.b_law_slid .nil pass0 (da_cons (de_var (pv 3)) (da_cons (de_var (pv 4)) da_nil))))))) (dss_cons (ds_asg (ps_asg (de_call (pe_call G_law_record (hr.mono (by decide)) (by rfl) T.g_law_record T.F_law_record.kp T.b_law_record .nil pass0 (da_cons (de_var (pv 3)) (da_cons (de_var (pv 4)) da_nil)))) (dg_tup (pg_tup rfl (dgs_cons (dg_name (pg_name (i := 9) sc_law_is_left.nd rfl (Or.inl rfl))) (dgs_cons (dg_name (pg_name (i := 10) sc_law_is_left.nd rfl (Or.inl rfl))) (dgs_cons (dg_name (pg_name (i := 11) sc_law_is_left.nd rfl (Or.inl rfl))) dgs_nil (pgs_cons (dg_name (pg_name (i := 11) sc_law_is_left.nd rfl (Or.inl rfl))) dgs_nil)) (pgs_cons (dg_name (pg_name (i := 10) sc_law_is_left.nd rfl (Or.inl rfl))) (dgs_cons (dg_name (pg_name (i := 11) sc_law_is_left.nd rfl (Or.inl rfl))) dgs_nil (pgs_cons (dg_name (pg_name (i := 11) sc_law_is_left.nd rfl (Or.inl rfl))) dgs_nil)))) (pgs_cons (dg_name (pg_name (i := 9) sc_law_is_left.nd rfl (Or.inl rfl))) (dgs_cons (dg_name (pg_name (i := 10) sc_law_is_left.nd rfl (Or.inl rfl))) (dgs_cons (dg_name (pg_name (i := 11) sc_law_is_left.nd rfl (Or.inl rfl))) dgs_nil (pgs_cons (dg_name (pg_name (i := 11) sc_law_is_left.nd rfl (Or.inl rfl))) dgs_nil)) (pgs_cons (dg_name (pg_name (i := 10) sc_law_is_left.nd rfl (Or.inl rfl))) (dgs_cons (dg_name (pg_name (i := 11) sc_law_is_left.nd rfl (Or.inl rfl))) dgs_nil (pgs_cons (dg_name (pg_name (i := 11) sc_law_is_left.nd rfl (Or.inl rfl))) dgs_nil))))))))))
    (dss_one (ds_set (ps_set (i := 8) sc_law_is_left.nd rfl (Or.inl rfl) (de_add (de_add (de_callTy snd_tuple call_tuple_of (by rfl) T.n_tuple (by decide +kernel) (da_cons (de_var (pv 9)) da_nil)) (de_var (pv 10))) (de_callTy snd_tuple call_tuple_of (by rfl) T.n_tuple (by decide +kernel) (da_cons (de_var (pv 11)) da_nil))))))))
    (dss_cons (ds_if (dt_ne hr.units (de_callB snd_reprR (call_reprR hg (Nat.lt_of_succ_lt (hu65_of hr))) (by rfl) T.n_repr (by decide +kernel) (da_cons (de_var (pv 6)) da_nil)) (de_callB snd_reprR (call_reprR hg (Nat.lt_of_succ_lt (hu65_of hr))) (by rfl) T.n_repr (by decide +kernel) (da_cons (de_var (pv 8)) da_nil))) (dss_one (ds_ret de_bl)) dss_nil)
    (dss_cons (ds_set (ps_set (i := 5) sc_law_is_left.nd rfl (Or.inl rfl) (de_call (pe_call G_led (hr.mono (by decide)) (by rfl) T.g_led T.F_led.kp T.b_led .nil pass0 (da_cons (de_var (pv 1)) (da_cons (de_var (pv 2)) (da_cons (de_call (pe_call G_law_letters (hr.mono (by decide)) (by rfl) T.g_law_letters T.F_law_letters.kp T.b_law_letters .nil pass0 (da_cons (de_var (pv 0)) (da_cons (de_var (pv 2)) (da_cons (de_lenN (pv 3) (by rfl) T.n_len) da_nil))))) (da_cons (de_call (pe_call G_law_relettered (hr.mono (by decide)) (by rfl) T.g_law_relettered T.F_law_relettered.kp T.b_law_relettered .nil pass0 (da_cons (de_var (pv 0)) (da_cons (de_var (pv 2)) (da_cons (de_var (pv 4)) da_nil))))) da_nil))))))))
    (dss_cons (ds_if (dt_bool (dw_or (dt_ne hr.units (de_lenN (pv 5) (by rfl) T.n_len) (de_lenN (pv 8) (by rfl) T.n_len)) (dw_or1 (dt_ne hr.units (de_callB snd_reprR (call_reprR hg (Nat.lt_of_succ_lt (hu65_of hr))) (by rfl) T.n_repr (by decide +kernel) (da_cons (de_call (pe_call G_open_deeds (hr.mono (by decide)) (by rfl) T.g_open_deeds T.F_open_deeds.kp T.b_open_deeds .nil pass0 (da_cons (de_var (pv 1)) (da_cons (de_var (pv 2)) (da_cons (de_var (pv 5)) da_nil))))) da_nil)) (de_callB snd_reprR (call_reprR hg (Nat.lt_of_succ_lt (hu65_of hr))) (by rfl) T.n_repr (by decide +kernel) (da_cons (de_call (pe_call G_open_deeds (hr.mono (by decide)) (by rfl) T.g_open_deeds T.F_open_deeds.kp T.b_open_deeds .nil pass0 (da_cons (de_var (pv 1)) (da_cons (de_var (pv 2)) (da_cons (de_var (pv 6)) da_nil))))) da_nil)))))) (dss_one (ds_ret de_bl)) dss_nil)
    (dss_one (ds_ret (de_eq hr.units (de_callB snd_reprR (call_reprR hg (Nat.lt_of_succ_lt (hu65_of hr))) (by rfl) T.n_repr (by decide +kernel) (da_cons (de_lst (da_cons (de_var (pv 3)) (da_cons (de_var (pv 4)) da_nil))) da_nil)) (de_var (pv 7))))))))))
theorem dss_law (T : Txt K mg) (G_law_books : ok_law_books P w base T) (G_law_pot : ok_law_pot P w base T) (G_law_draw : ok_law_draw P w base T) (G_law_pick : ok_law_pick P w base T) (G_law_words : ok_law_words P w base T) (G_law_row : ok_law_row P w base T) (G_law_walk : ok_law_walk P w base T) (G_law_is_left : ok_law_is_left P w base T) {cdv : Value} {A : Around} {outer : List Env} {s : Shared} {H : Hp} {E : XK} {B : Bs} (hr : Room 5 (A.deeper (envOfC "law" (defScope s_law) s.heap.objs.size T.a_law cdv))) (hg : (A.deeper (envOfC "law" (defScope s_law) s.heap.objs.size T.a_law cdv)).guards = some []) :
    DSs (cxOf CX0 P w K mg base N_law "law" (defScope s_law) T.a_law cdv A outer s H E).nox B (defBody s_law) wb_law :=
  (dss_cons (ds_par2 (i := 2) (j := 3) (ps_par rfl sc_law.nd rfl rfl (by decide) rfl rfl (da_cons (de_call (pe_call G_law_pot (hr.mono (by decide)) (by rfl) T.g_law_pot T.F_law_pot.kp T.b_law_pot .nil pass0 (da_cons (de_var (pv 0)) da_nil))) (da_cons (de_call0 (pe_call0 G_law_books (hr.mono (by decide)) (by rfl) T.g_law_books T.F_law_books.kp T.b_law_books .nil pass0)) da_nil)) (by rfl)))
    (dss_cons (ds_for PassesOwn.never rfl (di_r1 (by rfl) T.n_range (da_cons de_int da_nil)) (dg_name (pg_name (i := 1) sc_law.nd rfl (Or.inl rfl))) (dss_cons (ds_par2 (i := 8) (j := 9) (ps_par rfl sc_law.nd rfl rfl (by decide) rfl rfl (da_cons (de_call (pe_call G_law_pick (hr.mono (by decide)) (by rfl) T.g_law_pick T.F_law_pick.kp T.b_law_pick .nil pass0 (da_cons (de_var (pv 2)) (da_cons (de_add (de_var (pv 3)) (de_lst (da_cons (de_tup (da_cons de_str da_nil)) (da_cons (de_call0 (pe_call0 G_law_words (hr.mono (by decide)) (by rfl) T.g_law_words T.F_law_words.kp T.b_law_words .nil pass0)) (da_cons (de_slice (de_call0 (pe_call0 G_law_words (hr.mono (by decide)) (by rfl) T.g_law_words T.F_law_words.kp T.b_law_words .nil pass0)) (do_some de_int) do_none) da_nil))))) da_nil)))) (da_cons (de_add de_int (de_call (pe_call G_law_draw (hr.mono (by decide)) (by rfl) T.g_law_draw T.F_law_draw.kp T.b_law_draw .nil pass0 (da_cons (de_var (pv 2)) (da_cons de_int da_nil))))) da_nil)) (by rfl)))
    (dss_cons (ds_set (ps_set (i := 4) sc_law.nd rfl (Or.inl rfl) (de_call (pe_call G_law_row (hr.mono (by decide)) (by rfl) T.g_law_row T.F_law_row.kp T.b_law_row .nil pass0 (da_cons (de_var (pv 2)) (da_cons (de_var (pv 9)) (da_cons (de_call (pe_call G_law_pick (hr.mono (by decide)) (by rfl) T.g_law_pick T.F_law_pick.kp T.b_law_pick .nil pass0 (da_cons (de_var (pv 2)) (da_cons (de_lst (da_cons de_int (da_cons de_int (da_cons de_int da_nil)))) da_nil)))) da_nil)))))))
    (dss_cons (ds_set (ps_set (i := 5) sc_law.nd rfl (Or.inl rfl) (de_call (pe_call G_law_pick (hr.mono (by decide)) (by rfl) T.g_law_pick T.F_law_pick.kp T.b_law_pick .nil pass0 (da_cons (de_var (pv 2)) (da_cons (de_lst (da_cons de_int (da_cons de_int (da_cons de_int (da_cons de_int da_nil))))) da_nil))))))
    (dss_cons (ds_set (ps_set (i := 6) sc_law.nd rfl (Or.inl rfl) (de_call (pe_call G_law_walk (hr.mono (by decide)) (by rfl) T.g_law_walk T.F_law_walk.kp T.b_law_walk .nil pass0 (da_cons (de_var (pv 2)) (da_cons (de_var (pv 8)) (da_cons (de_var (pv 9)) (da_cons (de_var (pv 4)) (da_cons (de_var (pv 5)) da_nil)))))))))
    (dss_cons (ds_if (dt_eq hr.units (de_var (pv 8)) (de_tup (da_cons de_str da_nil))) (dss_one (ds_set (ps_set (i := 6) sc_law.nd rfl (Or.inl rfl) (de_slice (de_var (pv 6)) do_none (do_some (de_lenN (pv 4) (by rfl) T.n_len)))))) dss_nil)
    (dss_one (ds_for PassesOwn.never rfl (di_seq (de_tup (da_cons (de_var (pv 6)) (da_cons (de_slice (de_var (pv 6)) do_none (do_some (de_call (pe_call G_law_draw (hr.mono (by decide)) (by rfl) T.g_law_draw T.F_law_draw.kp T.b_law_draw .nil pass0 (da_cons (de_var (pv 2)) (da_cons (de_add (de_lenN (pv 6) (by rfl) T.n_len) de_int) da_nil)))))) da_nil)))) (dg_name (pg_name (i := 7) sc_law.nd rfl (Or.inl rfl))) (dss_one (ds_if (dt_not (dt_val (de_call (pe_callG G_law_is_left hg (spC_len rfl) (hr.mono (by decide)) (by rfl) T.g_law_is_left T.F_law_is_left.kp T.b_law_is_left (da_cons (de_var (pv 2)) (da_cons (de_var (pv 8)) (da_cons (de_var (pv 9)) (da_cons (de_var (pv 4)) (da_cons (de_var (pv 7)) da_nil))))))))) (dss_one (ds_ret de_bl)) dss_nil))))))))))
    (dss_one (ds_ret de_bl))))
end
end Ly.K14

namespace Ly.K14
open PySem PySem.Spec PyProof.Rows L2
theorem last_at : ∀ {l : List Int}, l ≠ [] → ∃ y : Int, (l.map V.int)[(l.map V.int).length - 1]? = some (.int y) ∧ atI (l.map V.int) (-1) = some (.int y) := by
  intro l hl
  have hp : 0 < l.length := List.length_pos_iff.mpr hl
  have e : (l.map V.int)[(l.map V.int).length - 1]? = some (.int l[l.length - 1]) := by
    rw [List.length_map, List.getElem?_map, List.getElem?_eq_getElem (by omega)]; rfl
  refine ⟨_, e, ?_⟩
  unfold atI ixN
  rw [if_neg (by omega), if_pos (by rw [List.length_map]; omega)]
  have e2 : (-1 + ((l.map V.int).length : Int)).toNat = (l.map V.int).length - 1 := by rw [List.length_map]; omega
  first
    | (rw [e2]; exact e)
    | (show (l.map V.int)[(-1 + ((l.map V.int).length : Int)).toNat]? = _; rw [e2]; exact e)
theorem drop_map {l : List Int} : (l.map V.int).dropLast = l.dropLast.map V.int := by rw [List.map_dropLast]
/-- the pot on the way -/
structure PotOk (H0 H : Hp) (a b : Addr) (far : List Int) (sr t : Int) : Prop where
  ha : H a = some (.dK [(kFar, .ref b), (kStir, .int sr), (kTurn, .int t)])
  hb : H b = some (.lst (far.map V.int))
  keep : ∀ c o, H0 c = some o → c ≠ a → c ≠ b → H c = some o
  nn : ∀ c, H c = none → H0 c = none
theorem PotOk.new {H0 H : Hp} {a b p : Addr} {far : List Int} {sr t : Int} (x : PotOk H0 H a b far sr t) (hp : H p = none) : PotOk H0 (upd H p (.lst [])) a b far sr t :=
  ⟨by rw [upd_ne (ne_of_none x.ha hp)]; exact x.ha, by rw [upd_ne (ne_of_none x.hb hp)]; exact x.hb, fun c o q h1 h2 => by have z := x.keep c o q h1 h2; rw [upd_ne (ne_of_none z hp)]; exact z, fun c q => by
    by_cases hc : c = p
    · rw [hc]; exact x.nn p hp
    · rw [upd_ne hc] at q; exact x.nn c q⟩
theorem PotOk.far {H0 H : Hp} {a b : Addr} {far far' : List Int} {sr t : Int} (x : PotOk H0 H a b far sr t) : PotOk H0 (upd H b (.lst (far'.map V.int))) a b far' sr t := by
  have nab : a ≠ b := ne_of x.ha x.hb (by simp)
  exact ⟨by rw [upd_ne nab]; exact x.ha, upd_same, fun c o q h1 h2 => by rw [upd_ne h2]; exact x.keep c o q h1 h2, fun c q => by
    by_cases hc : c = b
    · subst hc; rw [upd_same] at q; cases q
    · rw [upd_ne hc] at q; exact x.nn c q⟩
theorem PotOk.turn {H0 H : Hp} {a b : Addr} {far : List Int} {sr t t' : Int} (x : PotOk H0 H a b far sr t) : PotOk H0 (upd H a (.dK [(kFar, .ref b), (kStir, .int sr), (kTurn, .int t')])) a b far sr t' := by
  have nab : a ≠ b := ne_of x.ha x.hb (by simp)
  exact ⟨upd_same, by rw [upd_ne nab.symm]; exact x.hb, fun c o q h1 h2 => by rw [upd_ne h1]; exact x.keep c o q h1 h2, fun c q => by
    by_cases hc : c = a
    · subst hc; rw [upd_same] at q; cases q
    · rw [upd_ne hc] at q; exact x.nn c q⟩
section
variable {P : Program} {w : World} {K : PySem.W.Frag} {mg : Str → Option Value} {base : Heap}
theorem ok_draw (T : Txt K mg) : ok_law_draw P w base T := by
  refine T.F_law_draw.ok sc_law_draw (fun vs H Q E ⟨G, ds, n, Q', g, hl, rl, hc, hq⟩ => by rw [rl.length, hl]; rfl) (fun cdv A outer s H vs Q E hr ⟨G, ds, n, Q', g, hl, rl, h1, hq⟩ => ?_)
  have hu := hu_of hr
  obtain ⟨a, m, rfl, m1, m2, hb, hret⟩ := h1
  cases rl with
  | cons ra rl =>
  cases rl with
  | cons rm rl =>
  cases rl
  cases ra with
  | @bag _ b ga =>
  cases rm
  obtain ⟨gb, far, sr, t, ha, hbb, hfl, hs0, hs1, ht0, ht1⟩ := g.bg a b ga
  refine ⟨_, pss_cons (ps_while PassesOwn.never (PW.pt (pw_and (pt_cmpR (op_neD hr.units) (pe_dget hu (pv 0) pe_str (fun _ _ => rfl)) (pe_lst pa_nil) (nomark _)) (pw_and1 (pt_cmpR op_eq (pe_ix ix_seq (pe_dget hu (pv 0) pe_str (fun _ _ => rfl)) (pe_un un_neg pe_int) (fun _ _ => rfl)) pe_int (nomark _)))))
      (pss_one (ps_expr (pe_bm0 PySem.F.plainAttrs_list PySem.F.slot_list_pop PySem.F.type_list_pop mt_pop (pe_dget hu (pv 0) pe_str (fun _ _ => rfl))))))
    (pss_cons (ps_if (pt_cmpR (op_neD hr.units) (pe_dget hu (pv 0) pe_str (fun _ _ => rfl)) (pe_lst pa_nil) (nomark _))
      (pss_cons (ps_set (i := 3) sc_law_draw.nd rfl (Or.inl rfl) (pe_bm0 PySem.F.plainAttrs_list PySem.F.slot_list_pop PySem.F.type_list_pop mt_pop (pe_dget hu (pv 0) pe_str (fun _ _ => rfl))))
      (pss_cons (ps_expr (pe_bm PySem.F.plainAttrs_list PySem.F.slot_list_append PySem.F.type_list_append mt_append (pe_dget hu (pv 0) pe_str (fun _ _ => rfl)) (pa_cons (pe_op op_fdivN (pv 3) (pv 1)) pa_nil)))
      (pss_one (ps_ret (pe_callTy call_int1 (by rfl) T.n_int (by decide +kernel) (pa_cons (pe_op op_modN (pv 3) (pv 1)) pa_nil)))))) pss_nil)
    (pss_cons (ps_dput hu (pv 0) pe_str (pe_op op_add (pe_dget hu (pv 0) pe_str (fun _ _ => rfl)) pe_int) rfl)
    (pss_cons (ps_set (i := 2) sc_law_draw.nd rfl (Or.inl rfl) (pe_op op_modN (pe_callTy call_int1 (by rfl) T.n_int (by decide +kernel) (pa_cons (pe_op op_add (pe_dget hu (pv 0) pe_str (fun _ _ => rfl)) (pe_op op_mul (pe_dget hu (pv 0) pe_str (fun _ _ => rfl)) pe_int)) pa_nil)) pe_int))
    (pss_cons (ps_set (i := 2) sc_law_draw.nd rfl (Or.inl rfl) (pe_op op_modN (pe_callTy call_int1 (by rfl) T.n_int (by decide +kernel) (pa_cons (pe_op op_add (pe_op op_add (pe_op op_mul (pv 2) (pv 2)) (pe_op op_mul (pe_dget hu (pv 0) pe_str (fun _ _ => rfl)) pe_int)) pe_int) pa_nil)) pe_int))
    (pss_one (ps_ret (pe_op op_modN (pe_callTy call_int1 (by rfl) T.n_int (by decide +kernel) (pa_cons (pe_op op_fdivN (pe_op op_modN (pe_callTy call_int1 (by rfl) T.n_int (by decide +kernel) (pa_cons (pe_op op_add (pe_op op_mul (pv 2) pe_int) (pe_dget hu (pv 0) pe_str (fun _ _ => rfl))) pa_nil)) pe_int) pe_int) pa_nil)) (pv 1)))))))), ?_⟩
  have x0 : PotOk H H a b far sr t := ⟨ha, hbb, fun _ _ q _ _ => q, fun _ q => q⟩
  refine ⟨fun k σ' H' => σ' = start N_law_draw [.ref a, .int m] ∧ ∃ far', k = far'.length ∧ far'.length ≤ 63 ∧ PotOk H H' a b far' sr t, ⟨far.length, rfl, far, rfl, hfl, x0⟩, ?_⟩
  rintro k σ1 H1 ⟨rfl, far1, rfl, hf1, x1⟩
  have cond : ∀ Q2 : Bool → Hp → Prop, (∀ H2 bb, PotOk H H2 a b far1 sr t → (bb = true → far1 ≠ []) → Q2 bb H2) → tAnd (tTest (tOp (rNeD K) (tDGet (tVar 0) (tC (V.str (Str.ofString "far")))) (tLst tNil)))
      (tTest (tOp rEq (tOp (rIx K) (tDGet (tVar 0) (tC (V.str (Str.ofString "far")))) (tUn (rU fun i => V.int (-i)) (tC (V.int 1)))) (tC (V.int 0)))) (start N_law_draw [.ref a, .int m]) H1 Q2 := by
    intro Q2 hQ
    refine ⟨.ref a, rfl, a, .ref b, rfl, DGet.k (k := kFar) x1.ha, Nat.zero_le _, fun p hp => ?_⟩
    have x2 := x1.new hp
    have hp1 : (upd H1 p (.lst [])) p = some (.lst []) := upd_same
    generalize upd H1 p (.lst []) = H2 at x2 hp1 ⊢
    refine ⟨_, _, .lst (SqL.of x2.hb) (dp_ints far1), .lst (SqL.of hp1) .nil, shaped_ints far1, shaped_ints [], _, rfl, ?_⟩
    rw [eqv_nil]
    cases hfar : far1 with
    | nil => exact iteF (hQ _ _ (hfar ▸ x2) fun z => by cases z)
    | cons x r =>
      refine iteT ?_
      refine ⟨.ref a, rfl, a, .ref b, rfl, DGet.k (k := kFar) x2.ha, 1, rfl, ?_⟩
      obtain ⟨y, _, hv⟩ := last_at (l := far1) (by rw [hfar]; simp)
      refine .inl ⟨b, _, -1, .int y, rfl, rfl, SqL.of x2.hb, hv, rfl, _, rfl, hQ _ _ x2 fun _ => by rw [hfar]; simp⟩
  refine cond _ fun H2 bb x2 hne => ?_
  cases bb with
  | true =>
    refine iteT ⟨_, fun σ' H' q => q, ?_⟩
    have hne := hne rfl
    obtain ⟨y, hy, _⟩ := last_at hne
    refine ⟨.ref a, rfl, a, .ref b, rfl, DGet.k (k := kFar) x2.ha, .inl ⟨rfl, _, SqL.of x2.hb⟩, b, _, .int y, rfl, rfl, x2.hb, hy, ?_⟩
    rw [drop_map]
    have hp : 0 < far1.length := List.length_pos_iff.mpr hne
    exact ⟨far1.dropLast.length, by rw [List.length_dropLast]; omega, rfl, far1.dropLast, rfl, by rw [List.length_dropLast]; omega, x2.far⟩
  | false =>
    refine iteF ?_
    clear hne cond x1 x0
    refine ⟨.ref a, rfl, a, .ref b, rfl, DGet.k (k := kFar) x2.ha, Nat.zero_le _, fun p hp => ?_⟩
    have x3 := x2.new hp
    have hp1 : (upd H2 p (.lst [])) p = some (.lst []) := upd_same
    generalize upd H2 p (.lst []) = H3 at x3 hp1 ⊢
    refine ⟨_, _, .lst (SqL.of x3.hb) (dp_ints far1), .lst (SqL.of hp1) .nil, shaped_ints far1, shaped_ints [], _, rfl, ?_⟩
    rw [eqv_nil]
    cases hfar : far1 with
    | nil =>
      refine iteF ?_
      have ht2 : t + 1 ≤ 1000000000001 := by omega
      refine ⟨.ref a, rfl, a, .int t, rfl, DGet.k (k := kTurn) x3.ha, t, 1, rfl, rfl, .ref a, rfl, a, _, rfl, DPut.k (k := kTurn) x3.ha (szl (by simp)), ?_⟩
      rw [p_turn]
      have x4 := x3.turn (t' := t + 1)
      generalize upd H3 a (.dK [(kFar, .ref b), (kStir, .int sr), (kTurn, .int (t + 1))]) = H4 at x4 ⊢
      have fm : ∀ z : Int, 0 ≤ z.fmod 2147483587 ∧ z.fmod 2147483587 < 2147483587 := fun z => ⟨Int.fmod_nonneg_of_pos _ (by omega), Int.fmod_lt_of_pos _ (by omega)⟩
      have fm2 : ∀ z : Int, 0 ≤ z.fmod 2147483629 ∧ z.fmod 2147483629 < 2147483629 := fun z => ⟨Int.fmod_nonneg_of_pos _ (by omega), Int.fmod_lt_of_pos _ (by omega)⟩
      refine ⟨.ref a, rfl, a, .int sr, rfl, DGet.k (k := kStir) x4.ha, .ref a, rfl, a, .int (t + 1), rfl, DGet.k (k := kTurn) x4.ha, t + 1, 40692, rfl, rfl, .inr ⟨by omega, by omega⟩, _, _, rfl, rfl, .inl ⟨_, rfl, _, 2147483587, rfl, rfl, by omega, ?_⟩⟩
      obtain ⟨o1, o2⟩ := fm (sr + (t + 1) * 40692)
      simp only []
      generalize (sr + (t + 1) * 40692).fmod 2147483587 = one at o1 o2 ⊢
      refine ⟨.int one, rfl, .int one, rfl, one, one, rfl, rfl, .inl ⟨by omega, by omega⟩, .ref a, rfl, a, .int (t + 1), rfl, DGet.k (k := kTurn) x4.ha, t + 1, 69621, rfl, rfl, .inr ⟨by omega, by omega⟩, _, _, rfl, rfl, _, 31, rfl, rfl, .inl ⟨_, rfl, _, 2147483629, rfl, rfl, by omega, ?_⟩⟩
      obtain ⟨o3, o4⟩ := fm2 (one * one + (t + 1) * 69621 + 31)
      simp only []
      generalize (one * one + (t + 1) * 69621 + 31).fmod 2147483629 = two at o3 o4 ⊢
      refine ⟨.int two, rfl, two, 16807, rfl, rfl, .inr ⟨by omega, by omega⟩, .ref a, rfl, a, .int sr, rfl, DGet.k (k := kStir) x4.ha, _, _, rfl, rfl, .inl ⟨_, rfl, _, 2147483563, rfl, rfl, by omega, _, 256, rfl, rfl, ⟨by decide, by decide⟩, .inl ⟨_, rfl, .int m, rfl, _, m, rfl, rfl, by omega, ?_⟩⟩⟩
      obtain ⟨gr, bg, fh⟩ := draw_fin (H' := H4) (n := n) (far := []) g ga gb ha hbb x4.keep x4.ha (by rw [← hfar]; exact x4.hb) (by decide) hs0 hs1 (by omega) (by omega) x4.nn
      exact hq _ (n + 1) _ G _ (hret _ _ ⟨_, rfl, Int.fmod_nonneg_of_pos _ (by omega), Int.fmod_lt_of_pos _ (by omega)⟩ (by omega) (by omega)) gr bg fh (.int _)
    | cons x r =>
      refine iteT ?_
      obtain ⟨y, hy, _⟩ := last_at (l := far1) (by rw [hfar]; simp)
      refine ⟨.ref a, rfl, a, .ref b, rfl, DGet.k (k := kFar) x3.ha, .inl ⟨rfl, _, SqL.of x3.hb⟩, b, _, .int y, rfl, rfl, x3.hb, hy, ?_⟩
      rw [drop_map]
      have x4 := x3.far (far' := far1.dropLast)
      have hl4 : far1.dropLast.length ≤ 62 := by rw [List.length_dropLast]; omega
      generalize upd H3 b (.lst (far1.dropLast.map V.int)) = H4 at x4 ⊢
      generalize far1.dropLast = far4 at x4 hl4
      refine ⟨.ref a, rfl, a, .ref b, rfl, DGet.k (k := kFar) x4.ha, .inl ⟨rfl, _, SqL.of x4.hb⟩, .int y, rfl, .int m, rfl, y, m, rfl, rfl, ⟨by omega, by omega⟩, b, _, .int (y.fdiv m), rfl, rfl, x4.hb, szl (by rw [List.length_map]; omega), ?_⟩
      have e5 : far4.map V.int ++ [V.int (y.fdiv m)] = (far4 ++ [y.fdiv m]).map V.int := by rw [List.map_append]; rfl
      rw [e5]
      have x5 := x4.far (far' := far4 ++ [y.fdiv m])
      generalize upd H4 b (.lst ((far4 ++ [y.fdiv m]).map V.int)) = H5 at x5 ⊢
      refine ⟨.int y, rfl, .int m, rfl, y, m, rfl, rfl, by omega, .inl ⟨_, rfl, ?_⟩⟩
      obtain ⟨gr, bg, fh⟩ := draw_fin (H' := H5) (n := n) g ga gb ha hbb x5.keep x5.ha x5.hb (by rw [List.length_append]; simp; omega) hs0 hs1 ht0 (by omega) x5.nn
      exact hq _ (n + 1) _ G _ (hret _ _ ⟨y.fmod m, rfl, Int.fmod_nonneg_of_pos _ (by omega), Int.fmod_lt_of_pos _ (by omega)⟩ (by omega) (by omega)) gr bg fh (.int _)
end
end Ly.K14

namespace Ly.K14
open PySem PySem.Spec PyProof.Rows L2
def Kp (H H' : Hp) : Prop := (∀ c o, H c = some o → H' c = some o) ∧ ∀ c, H' c = none → H c = none
theorem Kp.refl {H : Hp} : Kp H H := ⟨fun _ _ q => q, fun _ q => q⟩
theorem Kp.put {H H' : Hp} {p : Addr} {o : HO} (x : Kp H H') (hp : H p = none) : Kp H (upd H' p o) := ⟨fun c u q => by rw [upd_ne (ne_of_none q hp)]; exact x.1 c u q, fun c q => by
  by_cases hc : c = p
  · rw [hc]; exact hp
  · rw [upd_ne hc] at q; exact x.2 c q⟩
theorem Kp.new {H H' : Hp} {p : Addr} {o : HO} (x : Kp H H') (hp : H' p = none) : Kp H (upd H' p o) := x.put (x.2 p hp)
theorem cut60 {ns : List Int} : cutV (ns.map V.int) none (some 60) = (ns.take 60).map V.int := by
  unfold cutV
  rw [HT.sIx_none, show (60 : Int) = ((60 : Nat) : Int) from rfl, HT.sIx_nat, List.length_map, List.drop_zero, Nat.sub_zero]
  rw [← List.map_take]
  congr 1
  by_cases h : 60 ≤ ns.length
  · rw [Nat.min_eq_left h]
  · rw [Nat.min_eq_right (by omega), List.take_of_length_le (Nat.le_refl _), List.take_of_length_le (by omega)]
section
variable {P : Program} {w : World} {K : PySem.W.Frag} {mg : Str → Option Value} {base : Heap}
theorem ok_pot (T : Txt K mg) : ok_law_pot P w base T := by
  refine T.F_law_pot.ok sc_law_pot (fun vs H Q E ⟨G, ds, n, Q', g, hl, rl, hc, hq⟩ => by rw [rl.length, hl]; rfl) (fun cdv A outer s H vs Q E hr ⟨G, ds, n, Q', g, hl, rl, h1, hq⟩ => ?_)
  have hu := hu_of hr
  obtain ⟨ns, rfl, hlen, hret⟩ := h1
  cases rl with
  | cons ra rl =>
  cases rl
  cases ra with
  | @scr a _ hsc =>
  have hS := hsc.seq
  refine ⟨_, pss_cons (ps_set (i := 1) sc_law_pot.nd rfl (Or.inl rfl) (pe_op op_add pe_int (pe_op op_mul pe_int (pe_callB call_len_seq (by rfl) T.n_len PySem.boot_len (pa_cons (pe_slice sl_list (pv 0) po_none (po_some pe_int)) pa_nil)))))
    (pss_cons (ps_for PassesOwn.never rfl (pi_list (pe_slice sl_list (pv 0) po_none (po_some pe_int))) (pg_name (i := 2) sc_law_pot.nd rfl (Or.inl rfl))
      (pss_one (ps_set (i := 1) sc_law_pot.nd rfl (Or.inl rfl) (pe_op op_modN (pe_callTy call_int1 (by rfl) T.n_int (by decide +kernel) (pa_cons (pe_op op_add (pe_op op_add (pe_op op_mul (pv 1) pe_int) (pe_op op_mul pe_int (pv 2))) pe_int) pa_nil)) pe_int))))
    (pss_one (ps_ret (pe_disp (pps_cons pe_str (pe_revL (pe_lc (own := [("cell", 2)]) rfl sc_law_pot.nd (pi_list (pe_slice sl_list (pv 0) po_none (po_some pe_int))) (blkOk_by (own := [("cell", 2)]) (N := N_law_pot) (sc := defScope s_law_pot) (by decide +kernel))
        (fun _ _ _ _ _ => pg_name (i := 2) sc_law_pot.nd rfl (Or.inl rfl)) (fun _ _ _ _ _ => pts_one (pt_cmpR op_gt (pe_callB call_abs (by rfl) T.n_abs (by decide +kernel) (pa_cons (pv 2) pa_nil)) (pe_op op_pow pe_int pe_int) (nomark _))) (fun _ _ _ _ _ => pe_callB call_abs (by rfl) T.n_abs (by decide +kernel) (pa_cons (pv 2) pa_nil))))
      (pps_cons pe_str (pv 1) (pps_cons pe_str pe_int pps_nil))) (by rfl) (by rfl) (fun z => by cases z) (by decide))))), ?_⟩
  have keepS : ∀ {H1 : Hp}, (∀ c o, H c = some o → H1 c = some o) → SqL K H1 a (ns.map V.int) := fun {H1} e3 => by
    rcases hsc with ⟨o, q⟩ | q
    · exact .inl (.inr ⟨o, e3 _ _ q⟩)
    · exact .inr q
  -- stirred = 15729 + 61 * len(script[:60])
  refine ⟨.ref a, rfl, 60, rfl, a, _, rfl, hS, fun p hp => ?_⟩
  rw [cut60]
  generalize hcs : ns.take 60 = cs
  have hcl : cs.length ≤ 60 := by rw [← hcs, List.length_take]; omega
  have k1 : Kp H (upd H p (.lst (cs.map V.int))) := Kp.refl.new hp
  have hp1 : (upd H p (.lst (cs.map V.int))) p = some (.lst (cs.map V.int)) := upd_same
  generalize upd H p (.lst (cs.map V.int)) = H1 at k1 hp1 ⊢
  refine ⟨p, _, rfl, .inl (SqL.of hp1), 61, _, rfl, rfl, .inl ⟨by omega, by omega⟩, 15729, _, rfl, rfl, ?_⟩
  refine ⟨.ref a, rfl, 60, rfl, a, _, rfl, keepS k1.1, fun p2 hp2 => ?_⟩
  rw [cut60, hcs, List.length_map]
  have k2 : Kp H (upd H1 p2 (.lst (cs.map V.int))) := k1.new hp2
  have hp3 : (upd H1 p2 (.lst (cs.map V.int))) p2 = some (.lst (cs.map V.int)) := upd_same
  generalize upd H1 p2 (.lst (cs.map V.int)) = H2 at k2 hp3 ⊢
  refine ⟨p2, rfl, ⟨_, SqL.of hp3⟩, ?_⟩
  refine for_list (K := K) (a := p2) (xs := cs.map V.int) (fun i σ H' => H' = H2 ∧ ∃ y1 sr, σ = [some (.ref a), some (.int sr), y1] ∧ 0 ≤ sr ∧ sr < 2147483629) ⟨rfl, none, 15729 + 61 * (cs.length : Int), rfl, by omega, by omega⟩ (fun i σ H' _ h => by rw [h.1]; exact SqL.of hp3) ?_ ?_
  · rintro i x σ H' hx ⟨rfl, y1, sr, rfl, s0, s1⟩
    rw [List.getElem?_map] at hx
    cases hxi : cs[i]? with
    | none => rw [hxi] at hx; cases hx
    | some y =>
      rw [hxi] at hx
      cases hx
      exact ⟨.int sr, rfl, sr, 69621, rfl, rfl, .inr ⟨by omega, by omega⟩, .int y, rfl, 13, y, rfl, rfl, .inl ⟨by omega, by omega⟩, _, _, rfl, rfl, _, 5, rfl, rfl, .inl ⟨_, rfl, _, 2147483629, rfl, rfl, by omega, rfl, _, _, rfl, Int.fmod_nonneg_of_pos _ (by omega), Int.fmod_lt_of_pos _ (by omega)⟩⟩
  · rintro σ H' ⟨rfl, y1, sr, rfl, s0, s1⟩
    clear hp3 hp1 k1
    -- the dict
    intro q hq0
    have k3 : Kp H (upd H' q (.dK [])) := k2.new hq0
    have hqH : H q = none := k2.2 q hq0
    have hq1 : (upd H' q (.dK [])) q = some (.dK []) := upd_same
    generalize upd H' q (.dK []) = H3 at k3 hq1 ⊢
    refine ⟨.ref a, rfl, 60, rfl, a, _, rfl, keepS k3.1, fun p4 hp4 => ?_⟩
    rw [cut60, hcs]
    have k4 : Kp H (upd H3 p4 (.lst (cs.map V.int))) := k3.new hp4
    have n4 : q ≠ p4 := ne_of_none hq1 hp4
    have hq2 : (upd H3 p4 (.lst (cs.map V.int))) q = some (.dK []) := by rw [upd_ne n4]; exact hq1
    have hp5 : (upd H3 p4 (.lst (cs.map V.int))) p4 = some (.lst (cs.map V.int)) := upd_same
    generalize upd H3 p4 (.lst (cs.map V.int)) = H4 at k4 hq2 hp5 ⊢
    refine ⟨p4, rfl, ⟨_, SqL.of hp5⟩, fun E2 hE => ?_⟩
    have hEn : H E2 = none := k4.2 E2 hE
    have n5 : q ≠ E2 := ne_of_none hq2 hE
    have n6 : p4 ≠ E2 := ne_of_none hp5 hE
    refine lc_list (K := K) (a := p4) (xs := cs.map V.int) (fun i H2 => ∃ far : List Int, H2 E2 = some (.lst (far.map V.int)) ∧ far.length ≤ i ∧ H2 q = some (.dK []) ∧ H2 p4 = some (.lst (cs.map V.int)) ∧ Kp H H2)
      ⟨[], upd_same, Nat.le_refl _, by rw [upd_ne n5]; exact hq2, by rw [upd_ne n6]; exact hp5, k4.put hEn⟩ (fun i H2 _ ⟨far, h⟩ => SqL.of h.2.2.2.1) ?_ ?_
    · rintro i x H2 hx ⟨far, f1, f2, f3, f4, f5⟩
      rw [List.getElem?_map] at hx
      cases hxi : cs[i]? with
      | none => rw [hxi] at hx; cases hx
      | some y =>
        rw [hxi] at hx
        cases hx
        have hil : i < cs.length := (List.getElem?_eq_some_iff.mp hxi).1
        refine ⟨rfl, .int y, rfl, y, rfl, 10, 12, rfl, rfl, ⟨by decide, by decide, by decide⟩, _, _, rfl, rfl, _, rfl, ite2 (fun h => ?_) (fun h => ?_)⟩
        · refine ⟨.int y, rfl, y, rfl, _, f1, szl (by rw [List.length_map]; omega), far ++ [if y < 0 then -y else y], by rw [upd_same, List.map_append]; rfl, by simp; omega, by rw [upd_ne n5]; exact f3, by rw [upd_ne n6]; exact f4, f5.put hEn⟩
        · exact ⟨far, f1, by omega, f3, f4, f5⟩
    · rintro H2 ⟨far, f1, f2, f3, f4, f5⟩
      rw [List.length_map] at f2
      refine ⟨E2, _, rfl, SqL.of f1, fun E3 hE3 => ?_⟩
      have hE3n : H E3 = none := f5.2 E3 hE3
      have n7 : q ≠ E3 := ne_of_none f3 hE3
      have k6 : Kp H (upd H2 E3 (.lst (far.map V.int).reverse)) := f5.new hE3
      have f6 : (upd H2 E3 (.lst (far.map V.int).reverse)) E3 = some (.lst (far.reverse.map V.int)) := by rw [upd_same, List.map_reverse]
      have f7 : (upd H2 E3 (.lst (far.map V.int).reverse)) q = some (.dK []) := by rw [upd_ne n7]; exact f3
      generalize upd H2 E3 (.lst (far.map V.int).reverse) = H6 at k6 f6 f7 ⊢
      refine ⟨.int sr, rfl, f7, [(kFar, .ref E3), (kStir, .int sr), (kTurn, .int 0)], rfl, by rw [List.length_cons, List.length_cons, List.length_cons, List.length_nil]; decide, ?_⟩
      have hmer : mergeK [] [(kFar, .ref E3), (kStir, .int sr), (kTurn, .int 0)] = [(kFar, V.ref E3), (kStir, .int sr), (kTurn, .int 0)] := rfl
      rw [hmer]
      have gq := g.fh q hqH
      have gE := g.fh E3 hE3n
      have k7 : Kp H (upd H6 q (.dK [(kFar, V.ref E3), (kStir, .int sr), (kTurn, .int 0)])) := k6.put hqH
      have gk : ∀ c, c ≠ q → c ≠ E3 → updG (updG G q (.bagd E3)) E3 (.bagl q) c = G c := fun c h1 h2 => by rw [updG_ne h2, updG_ne h1]
      have gqq : updG (updG G q (.bagd E3)) E3 (.bagl q) q = .bagd E3 := by rw [updG_ne n7, updG_same]
      refine hq (.bag q) n (.ref q) (updG (updG G q (.bagd E3)) E3 (.bagl q)) _ (hret q) ⟨fun c o z h1 h2 => ⟨k7.1 c o z, gk c (ne_of_none z hqH) (ne_of_none z hE3n)⟩, fun c d z => ?_, fun c d z => ?_, fun c xs z => k7.1 c _ z, fun c o u z => k7.1 c _ z⟩ (fun c d z => ?_) (fun c z => ?_) (.bag gqq)
      · rw [gk c (fun y => by rw [y, gq] at z; cases z) (fun y => by rw [y, gE] at z; cases z)]; exact z
      · rw [gk c (fun y => by rw [y, gq] at z; cases z) (fun y => by rw [y, gE] at z; cases z)]; exact z
      · by_cases c1 : c = q
        · subst c1
          rw [gqq] at z
          cases z
          exact ⟨updG_same, far.reverse, sr, 0, upd_same, by rw [upd_ne n7.symm]; exact f6, by rw [List.length_reverse]; omega, s0, by omega, by omega, by omega⟩
        · by_cases c2 : c = E3
          · subst c2; rw [updG_same] at z; cases z
          · rw [gk c c1 c2] at z
            obtain ⟨gd, far', s', t', hcc, hdd, zz⟩ := g.bg c d z
            exact ⟨by rw [gk d (ne_of_none hdd hqH) (ne_of_none hdd hE3n)]; exact gd, far', s', t', k7.1 c _ hcc, k7.1 d _ hdd, zz⟩
      · have c1 : c ≠ q := fun y => by subst y; rw [upd_same] at z; cases z
        rw [upd_ne c1] at z
        have c2 : c ≠ E3 := fun y => by subst y; rw [f6] at z; cases z
        rw [gk c c1 c2]
        exact g.fh c (k6.2 c z)
end
end Ly.K14

namespace Ly.K14
open PySem PySem.Spec PyProof.Rows L2
local macro_rules | `(tactic| walk_at "w") => `(tactic| try simp only [wRet, wRetN, wAndV, wOrV, wNotV, wCB, wCons, wNil, wV, wC, wChain, wTst, wTNot, wTAnd, wTOr, wIf, wOp, wIxN, wIx, wTup, wLst, wLenN, wSeq, wSkip, wIfS, wSet, wAsg, wgTup_iff, wgCons_iff, wgNil_iff, wgN, wCall, wCall0, wPar2, wPar3, wSl, woN, woS, wNeg, wDrop, wDct, wDct1, wListR1, wFor, wiR1, wiR2, wiSeq, wiEn, wiZip, wLc, wYes, wApp, wPop, wgIx,
  gIsi_iff, gLen_iff, gTuple_iff, gList_iff, gAll_iff, gI_iff, gAbs_iff, gMM_iff, gInt_iff, gEq_int, gEq_str, gEq_emp, listOf, gAdd_int, gAdd_tup, gAdd_lst, gAdd_lstN, gAdd_Nlst, gAdd_new, gMul_int, gMul_tup, gIsN_iff, gSl_tup, gSl_lst, gSl_new, sqL, sqT, sqN, ssL, ssT, ssO, dOf_val, dOf_new, svOf_val, svOf_new, kI_non, kI_bl, kI_int, kI_str, kI_tup, kI_lst, kI_dct, kI_dc0, kB_non, kB_bl, kB_int, kB_str, kB_tup, kB_lst, kB_dct, kB_dc0, kT_non, kT_bl, kT_int, kT_str, kT_tup, kT_lst, kT_dct, kT_dc0, kS_non, kS_bl, kS_int, kS_str, kS_tup, kS_lst, kS_dct, kS_dc0, wipeD,
  List.getElem?_cons_zero, List.getElem?_cons_succ, List.getElem?_nil, List.set_cons_zero, List.set_cons_succ, List.map_cons, List.map_nil, List.length_cons, List.length_nil, RV.val.injEq, RV.new.injEq, D.bl.injEq, D.int.injEq, D.str.injEq, D.tup.injEq, D.lst.injEq, SV.val.injEq, SV.own.injEq, Option.some.injEq, exists_eq_left', exists_eq_left, exists_and_left, exists_eq_right, true_and, and_true, Bool.not_true, Bool.not_false, Bool.false_eq_true, if_true, if_false, reduceIte, ite_self, Bool.true_xor, Bool.false_xor, Bool.not_eq_true', decide_eq_true_eq, List.cons.injEq, isNon, exists_eq, exists_eq', at0, at1, mvD_len, tlD_len, rowD_def, wDNew, wDGet, wDIn, wDPut, wDOne, wAugI, wTry, wRaise, wCallX, wInG, wExt, wCallK, wDc0, pick, List.filterMap_cons, List.filterMap_nil, isOwnD, SV.ownD.injEq, svOf_newD, key_pair])
open Ly.K12
theorem h_law_row : ∀ ds n Q, ds.length = 3 → c_law_row ds n Q → wb_law_row { nx := fun _ n' => Q .non n', rt := Q } (startD ["pot", "many", "limit"] ds) n := K12.h_law_row
theorem deed_shape {b : List Str} {m : Nat} {d : D} (hb : b ∈ theBooks) (hd : d ∈ deedsL b m) : (∃ w, ∃ k : Nat, d = .tup [.str w, .int k] ∧ (w = "put left" ∨ w = "put right" ∨ w = "slide") ∧ w ∈ b ∧ k < m) ∨ (∃ w, d = .tup [.str w] ∧ (w = "take left" ∨ w = "take right") ∧ w ∈ b) := by
  obtain ⟨w, hw, h⟩ := List.mem_flatMap.mp hd
  have hw5 := books_w5 b hb w hw
  unfold deed1 at h
  by_cases h2 : w ∈ puts
  · rw [if_pos h2] at h
    obtain ⟨k, hk, rfl⟩ := List.mem_map.mp h
    rw [List.mem_range] at hk
    refine .inl ⟨w, k, rfl, ?_, hw, hk⟩
    simpa [puts] using h2
  · rw [if_neg h2] at h
    simp at h
    subst h
    refine .inr ⟨w, rfl, ?_, hw⟩
    have := (take_w w hw5).mpr h2
    simpa using this
theorem beh2 {r : List Int} {w : Str} {k : Int} : behD r (.tup [.str w, .int k]) = if w = "put left" then k :: r else if w = "put right" then r ++ [k] else r.tail ++ [k] := rfl
theorem beh1 {r : List Int} {w : Str} : behD r (.tup [.str w]) = if w = "take left" then r.tail else r.dropLast := rfl
theorem beh_pl {r : List Int} {k : Int} : behD r (.tup [.str "put left", .int k]) = k :: r := by rw [beh2, if_pos rfl]
theorem beh_pr {r : List Int} {k : Int} : behD r (.tup [.str "put right", .int k]) = r ++ [k] := by rw [beh2, if_neg (by decide), if_pos rfl]
theorem beh_sl {r : List Int} {k : Int} : behD r (.tup [.str "slide", .int k]) = r.tail ++ [k] := by rw [beh2, if_neg (by decide), if_neg (by decide)]
theorem beh_tl {r : List Int} : behD r (.tup [.str "take left"]) = r.tail := by rw [beh1, if_pos rfl]
theorem beh_tr {r : List Int} : behD r (.tup [.str "take right"]) = r.dropLast := by rw [beh1, if_neg (by decide)]
def lenW (w : Str) (n : Nat) : Nat := if w = "put left" ∨ w = "put right" then n + 1 else if w = "slide" then n - 1 + 1 else n - 1
theorem lw1 : lenW "put left" n = n + 1 := by unfold lenW; rw [if_pos (.inl rfl)]
theorem lw2 : lenW "put right" n = n + 1 := by unfold lenW; rw [if_pos (.inr rfl)]
theorem lw3 : lenW "slide" n = n - 1 + 1 := by unfold lenW; rw [if_neg (by decide), if_pos rfl]
theorem lw4 : lenW "take left" n = n - 1 := by unfold lenW; rw [if_neg (by decide), if_neg (by decide)]
theorem lw5 : lenW "take right" n = n - 1 := by unfold lenW; rw [if_neg (by decide), if_neg (by decide)]
theorem fw2 {w : Str} {l : List D} : firstW (.tup (.str w :: l)) = w := rfl
theorem beh_len {b : List Str} {m : Nat} {d : D} {r : List Int} (hb : b ∈ theBooks) (hd : d ∈ deedsL b m) : (behD r d).length = lenW (firstW d) r.length := by
  rcases deed_shape hb hd with ⟨w, k, rfl, (rfl | rfl | rfl), _⟩ | ⟨w, rfl, (rfl | rfl), _⟩
  · rw [beh_pl, fw2, lw1]; rfl
  · rw [beh_pr, fw2, lw2, List.length_append]; rfl
  · rw [beh_sl, fw2, lw3, List.length_append, List.length_tail]; rfl
  · rw [beh_tl, fw2, lw4, List.length_tail]
  · rw [beh_tr, fw2, lw5, List.length_dropLast]
theorem beh_le {b : List Str} {m : Nat} {d : D} {r : List Int} (hb : b ∈ theBooks) (hd : d ∈ deedsL b m) : (behD r d).length ≤ r.length + 1 := by
  rcases deed_shape hb hd with ⟨w, k, rfl, (rfl | rfl | rfl), _⟩ | ⟨w, rfl, (rfl | rfl), _⟩
  · rw [beh_pl]; simp
  · rw [beh_pr]; simp
  · rw [beh_sl]; simp
  · rw [beh_tl]; simp; omega
  · rw [beh_tr]; simp; omega
theorem beh_let {b : List Str} {m : Nat} {d : D} {r : List Int} (hb : b ∈ theBooks) (hm : m ≤ 3) (hd : d ∈ deedsL b m) (hr : ∀ x ∈ r, 0 ≤ x ∧ x < (3 : Int)) : ∀ x ∈ behD r d, 0 ≤ x ∧ x < (3 : Int) := by
  rcases deed_shape hb hd with ⟨w, k, rfl, (rfl | rfl | rfl), _, hk⟩ | ⟨w, rfl, (rfl | rfl), _⟩
  · rw [beh_pl]
    intro x hx
    rcases List.mem_cons.mp hx with rfl | hx
    · omega
    · exact hr x hx
  · rw [beh_pr]
    intro x hx
    rcases List.mem_append.mp hx with hx | hx
    · exact hr x hx
    · rw [List.mem_singleton] at hx; omega
  · rw [beh_sl]
    intro x hx
    rcases List.mem_append.mp hx with hx | hx
    · exact hr x (List.mem_of_mem_tail hx)
    · rw [List.mem_singleton] at hx; omega
  · rw [beh_tl]; exact fun x hx => hr x (List.mem_of_mem_tail hx)
  · rw [beh_tr]; exact fun x hx => hr x (List.dropLast_subset _ hx)
theorem open_mem {b : List Str} {m : Nat} {r : List Int} {d : D} : d ∈ openL b m r ↔ d ∈ deedsL b m ∧ opn r d = true := List.mem_filter
theorem ok_mem {b : List Str} {m : Nat} : ∀ {l : List D} {r : List Int}, okRun b m r l → ∀ d ∈ l, d ∈ deedsL b m
  | [], _, _, _, h => by cases h
  | d :: l, r, ⟨h1, h2⟩, x, h => by
    rcases List.mem_cons.mp h with rfl | h
    · exact (open_mem.mp h1).1
    · exact ok_mem h2 x h
theorem ok_get {b : List Str} {m : Nat} : ∀ {l : List D} {r : List Int} {i : Nat} {d : D}, okRun b m r l → l[i]? = some d → d ∈ openL b m (runD r (l.take i))
  | [], _, _, _, _, h => by simp at h
  | x :: l, r, 0, d, ⟨h1, _⟩, h => by simp at h; subst h; exact h1
  | x :: l, r, i + 1, d, ⟨_, h2⟩, h => by
    rw [List.getElem?_cons_succ] at h
    exact ok_get (r := behD r x) h2 h
theorem run_succ {l : List D} {r : List Int} {i : Nat} {d : D} (h : l[i]? = some d) : runD r (l.take (i + 1)) = behD (runD r (l.take i)) d := by
  unfold runD
  rw [List.take_add_one, h, List.foldl_append]
  rfl
theorem ok_snoc {b : List Str} {m : Nat} : ∀ {l : List D} {r : List Int} {d : D}, okRun b m r l → d ∈ openL b m (runD r l) → okRun b m r (l ++ [d])
  | [], _, _, _, h => ⟨h, trivial⟩
  | _ :: _, _, _, ⟨h1, h2⟩, h => ⟨h1, ok_snoc h2 h⟩
theorem ok_take {b : List Str} {m : Nat} : ∀ {l : List D} {r : List Int} {i : Nat}, okRun b m r l → okRun b m r (l.take i)
  | [], _, i, _ => by rw [List.take_nil]; trivial
  | _ :: _, _, 0, _ => trivial
  | _ :: _, _, _ + 1, ⟨h1, h2⟩ => ⟨h1, ok_take h2⟩
theorem run_le {b : List Str} {m : Nat} (hb : b ∈ theBooks) : ∀ {l : List D} {r : List Int}, (∀ d ∈ l, d ∈ deedsL b m) → (runD r l).length ≤ r.length + l.length
  | [], r, _ => Nat.le_refl _
  | d :: l, r, h => by
    have h1 := run_le hb (l := l) (r := behD r d) fun x hx => h x (List.mem_cons_of_mem _ hx)
    have h2 := beh_le (r := r) hb (h d List.mem_cons_self)
    show (runD (behD r d) l).length ≤ r.length + (l.length + 1)
    omega
theorem run_let {b : List Str} {m : Nat} (hb : b ∈ theBooks) (hm : m ≤ 3) : ∀ {l : List D} {r : List Int}, (∀ d ∈ l, d ∈ deedsL b m) → (∀ x ∈ r, 0 ≤ x ∧ x < (3 : Int)) → ∀ x ∈ runD r l, 0 ≤ x ∧ x < (3 : Int)
  | [], r, _, h => h
  | d :: l, r, h, hr => run_let hb hm (l := l) (r := behD r d) (fun x hx => h x (List.mem_cons_of_mem _ hx)) (beh_let hb hm (h d List.mem_cons_self) hr)
theorem ok_like {b : List Str} {m : Nat} (hb : b ∈ theBooks) : ∀ {l l' : List D} {r r' : List Int}, okRun b m r l → r'.length = r.length → l'.map firstW = l.map firstW → (∀ d ∈ l', d ∈ deedsL b m) → okRun b m r' l' ∧ (runD r' l').length = (runD r l).length
  | [], [], r, r', _, h, _, _ => ⟨trivial, h⟩
  | [], _ :: _, _, _, _, _, h, _ => by cases h
  | _ :: _, [], _, _, _, _, h, _ => by cases h
  | d :: l, d' :: l', r, r', ⟨h1, h2⟩, hl, hm, hd => by
    rw [List.map_cons, List.map_cons, List.cons.injEq] at hm
    obtain ⟨e, hm⟩ := hm
    have hd' := hd d' List.mem_cons_self
    obtain ⟨g1, g2⟩ := open_mem.mp h1
    have i := ok_like hb (r' := behD r' d') h2 (by rw [beh_len hb hd', beh_len hb g1, e, hl]) hm fun x hx => hd x (List.mem_cons_of_mem _ hx)
    refine ⟨⟨open_mem.mpr ⟨hd', ?_⟩, i.1⟩, i.2⟩
    unfold opn at g2 ⊢
    rw [e]
    have : r'.isEmpty = r.isEmpty := by
      cases r <;> cases r' <;> simp_all
    rw [this]
    exact g2
theorem open_like {b : List Str} {m : Nat} {r r' : List Int} (h : r'.length = r.length) : openL b m r' = openL b m r := by
  have : r'.isEmpty = r.isEmpty := by
    cases r <;> cases r' <;> simp_all
  unfold openL
  rw [this]
def ltI (d : D) : D := match d with | .tup [_, k] => k | _ => .non
theorem run_slid {m : Nat} : ∀ {l : List D} {r : List Int}, (∀ d ∈ l, d ∈ deedsL [("slide" : Str)] m) → l.length ≤ r.length → rowD (runD r l) = .tup ((r.drop l.length).map .int ++ l.map ltI)
  | [], r, _, _ => by simp [runD, rowD]
  | d :: l, r, h, hl => by
    have hs : ∃ k : Nat, d = .tup [.str "slide", .int k] := by
      rcases deed_shape (b := [("slide" : Str)]) (by decide) (h d List.mem_cons_self) with ⟨w, k, rfl, _, hw, _⟩ | ⟨w, rfl, hw, hw2⟩
      · rw [List.mem_singleton] at hw; subst hw; exact ⟨k, rfl⟩
      · rw [List.mem_singleton] at hw2; subst hw2; rcases hw with hw | hw <;> exact absurd hw (by decide)
    obtain ⟨k, rfl⟩ := hs
    rw [List.length_cons] at hl
    have i := run_slid (l := l) (r := r.tail ++ [(k : Int)]) (fun x hx => h x (List.mem_cons_of_mem _ hx)) (by rw [List.length_append, List.length_tail, List.length_singleton]; omega)
    show rowD (runD (behD r _) l) = _
    rw [beh_sl, i]
    have h1 : l.length ≤ r.tail.length := by rw [List.length_tail]; omega
    rw [List.drop_append_of_le_length h1, List.length_cons, List.map_append, List.drop_tail, List.append_assoc]
    rfl
end Ly.K14

namespace Ly.K14
open PySem PySem.Spec PyProof.Rows L2
local macro_rules | `(tactic| walk_at "w") => `(tactic| try simp only [wRet, wRetN, wAndV, wOrV, wNotV, wCB, wCons, wNil, wV, wC, wChain, wTst, wTNot, wTAnd, wTOr, wIf, wOp, wIxN, wIx, wTup, wLst, wLenN, wSeq, wSkip, wIfS, wSet, wAsg, wgTup_iff, wgCons_iff, wgNil_iff, wgN, wCall, wCall0, wPar2, wPar3, wSl, woN, woS, wNeg, wDrop, wDct, wDct1, wListR1, wFor, wiR1, wiR2, wiSeq, wiEn, wiZip, wLc, wYes, wApp, wPop, wgIx,
  gIsi_iff, gLen_iff, gTuple_iff, gList_iff, gAll_iff, gI_iff, gAbs_iff, gMM_iff, gInt_iff, gEq_int, gEq_str, gEq_emp, listOf, gAdd_int, gAdd_tup, gAdd_lst, gAdd_lstN, gAdd_Nlst, gAdd_new, gMul_int, gMul_tup, gIsN_iff, gSl_tup, gSl_lst, gSl_new, sqL, sqT, sqN, ssL, ssT, ssO, dOf_val, dOf_new, svOf_val, svOf_new, kI_non, kI_bl, kI_int, kI_str, kI_tup, kI_lst, kI_dct, kI_dc0, kB_non, kB_bl, kB_int, kB_str, kB_tup, kB_lst, kB_dct, kB_dc0, kT_non, kT_bl, kT_int, kT_str, kT_tup, kT_lst, kT_dct, kT_dc0, kS_non, kS_bl, kS_int, kS_str, kS_tup, kS_lst, kS_dct, kS_dc0, wipeD,
  List.getElem?_cons_zero, List.getElem?_cons_succ, List.getElem?_nil, List.set_cons_zero, List.set_cons_succ, List.map_cons, List.map_nil, List.length_cons, List.length_nil, RV.val.injEq, RV.new.injEq, D.bl.injEq, D.int.injEq, D.str.injEq, D.tup.injEq, D.lst.injEq, SV.val.injEq, SV.own.injEq, Option.some.injEq, exists_eq_left', exists_eq_left, exists_and_left, exists_eq_right, true_and, and_true, Bool.not_true, Bool.not_false, Bool.false_eq_true, if_true, if_false, reduceIte, ite_self, Bool.true_xor, Bool.false_xor, Bool.not_eq_true', decide_eq_true_eq, List.cons.injEq, isNon, exists_eq, exists_eq', at0, at1, mvD_len, tlD_len, rowD_def, wDNew, wDGet, wDIn, wDPut, wDOne, wAugI, wTry, wRaise, wCallX, wInG, wExt, wCallK, wDc0, pick, List.filterMap_cons, List.filterMap_nil, isOwnD, SV.ownD.injEq, svOf_newD, key_pair])
open Ly.K12
theorem cut_tail {r : List Int} : cutD (r.map .int) (some (1 : Int)) none = r.tail.map .int := by
  rw [show (1 : Int) = ((1 : Nat) : Int) from rfl, cut_from, List.drop_one, List.map_tail]
theorem cut_last {r : List Int} : cutD (r.map .int) none (some (-1 : Int)) = r.dropLast.map .int := by
  unfold cutD
  have h1 : HT.sIx (r.map D.int).length 0 none = 0 := rfl
  have h2 : HT.sIx (r.map D.int).length (r.map D.int).length (some (-1)) = r.length - 1 := by
    rw [List.length_map]
    simp [HT.sIx]
    try omega
  rw [h1, h2, List.drop_zero, Nat.sub_zero, List.map_dropLast, List.dropLast_eq_take, List.length_map]
theorem h_behind : ∀ ds n Q, ds.length = 2 → c_behind ds n Q → wb_behind { nx := fun _ n' => Q .non n', rt := Q } (startD ["row", "deed", "word"] ds) n := by
  rintro ds n Q - ⟨b, m, r, d, rfl, hb, hm, hd, hr, hq⟩
  have z1 : 1 + r.length ≤ sizeLine := sz (by omega)
  have z2 : r.length + 1 ≤ sizeLine := sz (by omega)
  rcases deed_shape hb hd with ⟨w, k, rfl, (rfl | rfl | rfl), _⟩ | ⟨w, rfl, (rfl | rfl), _⟩
  · show wb_behind _ [.val (rowD r), .val _, .un] n
    rw [beh_pl] at hq
    unfold wb_behind; walk_at "w"
    unfold wb_behind_5; walk_at "w"
    refine ⟨by decide, by rw [List.length_map]; exact z1, ?_⟩
    exact hq
  · show wb_behind _ [.val (rowD r), .val _, .un] n
    rw [beh_pr] at hq
    unfold wb_behind; walk_at "w"
    unfold wb_behind_5; walk_at "w"
    rw [if_neg (by decide)]
    unfold wb_behind_4; walk_at "w"
    refine ⟨by decide, by rw [List.length_map]; exact z2, ?_⟩
    rw [rowD, List.map_append] at hq
    exact hq
  · show wb_behind _ [.val (rowD r), .val _, .un] n
    rw [beh_sl] at hq
    unfold wb_behind; walk_at "w"
    unfold wb_behind_5; walk_at "w"
    rw [if_neg (by decide)]
    unfold wb_behind_4; walk_at "w"
    rw [if_neg (by decide)]
    unfold wb_behind_3; walk_at "w"
    rw [cut_tail]
    refine ⟨by decide, by rw [List.length_map, List.length_tail]; exact sz (by omega), ?_⟩
    rw [rowD, List.map_append] at hq
    exact hq
  · show wb_behind _ [.val (rowD r), .val _, .un] n
    rw [beh_tl] at hq
    unfold wb_behind; walk_at "w"
    unfold wb_behind_5; walk_at "w"
    rw [if_neg (by decide)]
    unfold wb_behind_4; walk_at "w"
    rw [if_neg (by decide)]
    unfold wb_behind_3; walk_at "w"
    rw [if_neg (by decide)]
    unfold wb_behind_2; walk_at "w"
    rw [cut_tail]
    exact hq
  · show wb_behind _ [.val (rowD r), .val _, .un] n
    rw [beh_tr] at hq
    unfold wb_behind; walk_at "w"
    unfold wb_behind_5; walk_at "w"
    rw [if_neg (by decide)]
    unfold wb_behind_4; walk_at "w"
    rw [if_neg (by decide)]
    unfold wb_behind_3; walk_at "w"
    rw [if_neg (by decide)]
    unfold wb_behind_2; walk_at "w"
    rw [if_neg (by decide)]
    unfold wb_behind_1; walk_at "w"
    rw [cut_last]
    exact hq
theorem h_law_behind : ∀ ds n Q, ds.length = 2 → c_law_behind ds n Q → wb_law_behind { nx := fun _ n' => Q .non n', rt := Q } (startD ["row", "deed"] ds) n := by
  rintro ds n Q - ⟨b, m, r, d, rfl, hb, hm, hd, hr, hq⟩
  have z1 : 1 + r.length ≤ sizeLine := sz (by omega)
  have z2 : r.length + 1 ≤ sizeLine := sz (by omega)
  rcases deed_shape hb hd with ⟨w, k, rfl, (rfl | rfl | rfl), _⟩ | ⟨w, rfl, (rfl | rfl), _⟩
  · show wb_law_behind _ [.val (rowD r), .val _] n
    rw [beh_pl] at hq
    unfold wb_law_behind; walk_at "w"
    refine ⟨by decide, by rw [List.length_map]; exact z1, ?_⟩
    exact hq
  · show wb_law_behind _ [.val (rowD r), .val _] n
    rw [beh_pr] at hq
    unfold wb_law_behind; walk_at "w"
    rw [if_neg (by decide)]
    unfold wb_law_behind_3; walk_at "w"
    refine ⟨by decide, by rw [List.length_map]; exact z2, ?_⟩
    rw [rowD, List.map_append] at hq
    exact hq
  · show wb_law_behind _ [.val (rowD r), .val _] n
    rw [beh_sl] at hq
    unfold wb_law_behind; walk_at "w"
    rw [if_neg (by decide)]
    unfold wb_law_behind_3; walk_at "w"
    rw [if_neg (by decide)]
    unfold wb_law_behind_2; walk_at "w"
    rw [if_neg (by decide)]
    unfold wb_law_behind_1; walk_at "w"
    rw [if_neg (by decide)]
    rw [cut_tail]
    refine ⟨by decide, by rw [List.length_map, List.length_tail]; exact sz (by omega), ?_⟩
    rw [rowD, List.map_append] at hq
    exact hq
  · show wb_law_behind _ [.val (rowD r), .val _] n
    rw [beh_tl] at hq
    unfold wb_law_behind; walk_at "w"
    rw [if_neg (by decide)]
    unfold wb_law_behind_3; walk_at "w"
    rw [if_neg (by decide)]
    unfold wb_law_behind_2; walk_at "w"
    rw [cut_tail]
    exact hq
  · show wb_law_behind _ [.val (rowD r), .val _] n
    rw [beh_tr] at hq
    unfold wb_law_behind; walk_at "w"
    rw [if_neg (by decide)]
    unfold wb_law_behind_3; walk_at "w"
    rw [if_neg (by decide)]
    unfold wb_law_behind_2; walk_at "w"
    rw [if_neg (by decide)]
    unfold wb_law_behind_1; walk_at "w"
    rw [cut_last]
    exact hq
theorem h_led : ∀ ds n Q, ds.length = 4 → c_led ds n Q → wb_led { nx := fun _ n' => Q .non n', rt := Q } (startD ["book", "many", "row", "deeds", "here", "place", "deed"] ds) n := by
  rintro ds n Q - ⟨b, m, r, l, rfl, hb, m1, m3, hl, hr, ok, hq⟩
  show wb_led _ [.val (bookD b), .val (.int m), .val (rowD r), .val (.tup l), .un, .un, .un] n
  unfold wb_led; walk_at "w"
  rw [if_neg (by omega)]
  unfold wb_led_3; walk_at "w"
  refine loop_inv (fun i ρ n' => n' = n ∧ ∃ x5 x6, ρ = [.val (bookD b), .val (.int m), .val (rowD r), .val (.tup l), .val (rowD (runD r (l.take i))), x5, x6]) ?_ ⟨rfl, _, _, rfl⟩ ?_
  · rintro i d ρ n' hd ⟨rfl, x5, x6, rfl⟩ NX hNX
    obtain ⟨v, hv, rfl⟩ := enD_get hd
    have ho := ok_get ok hv
    obtain ⟨h1, h2⟩ := open_mem.mp ho
    obtain ⟨_, _, _, _, _, _, _, vd⟩ := deed_form hb m3 h1
    have hrl := run_le hb (r := r) (ok_mem (ok_take (i := i) ok))
    have htl : (l.take i).length ≤ l.length := List.length_take_le' _ _
    walk_at "w"
    unfold wb_led_2; walk_at "w"
    refine ⟨b, m, _, v, rfl, hb, vd, ?_⟩
    rw [derr_opn hb m3 h1, if_pos h2]
    walk_at "w"
    unfold wb_led_1; walk_at "w"
    refine ⟨b, m, _, v, rfl, hb, m3, h1, by omega, ?_⟩
    rw [← run_succ hv]
    exact hNX _ _ ⟨rfl, _, _, rfl⟩
  · rintro ρ n' ⟨rfl, x5, x6, rfl⟩
    walk_at "w"
    rw [enD_length, List.take_length]
    exact hq
end Ly.K14

namespace Ly.K14
open PySem PySem.Spec PyProof.Rows L2
local macro_rules | `(tactic| walk_at "w") => `(tactic| try simp only [wRet, wRetN, wAndV, wOrV, wNotV, wCB, wCons, wNil, wV, wC, wChain, wTst, wTNot, wTAnd, wTOr, wIf, wOp, wIxN, wIx, wTup, wLst, wLenN, wSeq, wSkip, wIfS, wSet, wAsg, wgTup_iff, wgCons_iff, wgNil_iff, wgN, wCall, wCall0, wPar2, wPar3, wSl, woN, woS, wNeg, wDrop, wDct, wDct1, wListR1, wFor, wiR1, wiR2, wiSeq, wiEn, wiZip, wLc, wYes, wApp, wPop, wgIx,
  gIsi_iff, gLen_iff, gTuple_iff, gList_iff, gAll_iff, gI_iff, gAbs_iff, gMM_iff, gInt_iff, gEq_int, gEq_str, gEq_emp, listOf, gAdd_int, gAdd_tup, gAdd_lst, gAdd_lstN, gAdd_Nlst, gAdd_new, gMul_int, gMul_tup, gIsN_iff, gSl_tup, gSl_lst, gSl_new, sqL, sqT, sqN, ssL, ssT, ssO, dOf_val, dOf_new, svOf_val, svOf_new, kI_non, kI_bl, kI_int, kI_str, kI_tup, kI_lst, kI_dct, kI_dc0, kB_non, kB_bl, kB_int, kB_str, kB_tup, kB_lst, kB_dct, kB_dc0, kT_non, kT_bl, kT_int, kT_str, kT_tup, kT_lst, kT_dct, kT_dc0, kS_non, kS_bl, kS_int, kS_str, kS_tup, kS_lst, kS_dct, kS_dc0, wipeD,
  List.getElem?_cons_zero, List.getElem?_cons_succ, List.getElem?_nil, List.set_cons_zero, List.set_cons_succ, List.map_cons, List.map_nil, List.length_cons, List.length_nil, RV.val.injEq, RV.new.injEq, D.bl.injEq, D.int.injEq, D.str.injEq, D.tup.injEq, D.lst.injEq, SV.val.injEq, SV.own.injEq, Option.some.injEq, exists_eq_left', exists_eq_left, exists_and_left, exists_eq_right, true_and, and_true, Bool.not_true, Bool.not_false, Bool.false_eq_true, if_true, if_false, reduceIte, ite_self, Bool.true_xor, Bool.false_xor, Bool.not_eq_true', decide_eq_true_eq, List.cons.injEq, isNon, exists_eq, exists_eq', at0, at1, mvD_len, tlD_len, rowD_def, wDNew, wDGet, wDIn, wDPut, wDOne, wAugI, wTry, wRaise, wCallX, wInG, wExt, wCallK, wDc0, pick, List.filterMap_cons, List.filterMap_nil, isOwnD, SV.ownD.injEq, svOf_newD, key_pair])
open Ly.K12
def LV (s : SV) (l : List D) : Prop := s = .own l ∨ s = .val (.lst l)
theorem h_law_walk : ∀ ds n Q, ds.length = 5 → c_law_walk ds n Q → wb_law_walk { nx := fun _ n' => Q .non n', rt := Q } (startD ["pot", "book", "many", "row", "size", "turn", "found", "kept", "some", "alike", "deed"] ds) n := by
  rintro ds n Q - ⟨a, b, m, s, r, rfl, hb, m1, m3, hs, hr, hbd, hq⟩
  show wb_law_walk _ [.val (.bag a), .val (bookD b), .val (.int m), .val (rowD r), .val (.int s), .un, .un, .un, .un, .un, .un] n
  unfold wb_law_walk; walk_at "w"
  refine ⟨by decide, by decide, ?_⟩
  refine ⟨_, _, ⟨rfl, rfl⟩, ?_⟩
  unfold wb_law_walk_8; walk_at "w"
  refine ⟨⟨by omega, by omega⟩, ?_⟩
  have hdl : (deedsL b m).length ≤ 12 := Nat.le_trans (deeds_len m3) (by have := books_len b hb; omega)
  refine loop_inv (fun i ρ n' => n ≤ n' ∧ n' ≤ n + 2 * i ∧ ∃ L K x5 x8 x9 x10, okRun b m r L ∧ L.length ≤ i ∧ (K = [] ∨ ∃ w, K = [.str w]) ∧ ρ = [.val (.bag a), .val (bookD b), .val (.int m), .val (rowD (runD r L)), .val (.int s), x5, .own L, .own K, x8, x9, x10]) ?_ ⟨Nat.le_refl _, by omega, [], [], _, _, _, _, trivial, Nat.le_refl _, .inl rfl, rfl⟩ ?_
  · rintro i x ρ n' hx ⟨c1, c2, L, K, x5, x8, x9, x10, ok, hL, hK, rfl⟩ NX hNX
    have hi : i < s := by
      have := (List.getElem?_eq_some_iff.mp hx).1
      rw [rgD_len] at this
      omega
    have fl : (openL b m (runD r L)).length ≤ 12 := Nat.le_trans (List.length_filter_le _ _) hdl
    have hrl := run_le hb (r := r) (ok_mem ok)
    walk_at "w"
    unfold wb_law_walk_7; walk_at "w"
    refine ⟨b, m, _, rfl, hb, m1, m3, ?_⟩
    unfold wb_law_walk_6; walk_at "w"
    refine ⟨by decide, ?_⟩
    by_cases he : (openL b m (runD r L)).isEmpty = true
    · rw [if_pos he]
      exact hq _ _ ⟨L, rfl, by omega, ok⟩ c1 (by omega)
    rw [if_neg he]
    have hne : 1 ≤ (openL b m (runD r L)).length := by
      cases e : openL b m (runD r L) with
      | nil => rw [e] at he; exact absurd rfl he
      | cons _ _ => simp
    clear he
    have three : ∀ d s7 A n2, d ∈ openL b m (runD r L) → n' ≤ n2 → n2 ≤ n' + 2 → wb_law_walk_3 { nx := NX, rt := Q, bk := fun ρ1 n1 => (match ρ1[6]? with | some (SV.val d) => ∃ l, seqOf (RV.val d) = some l ∧ Q (D.tup l) n1 | some (SV.own l) => Q (D.tup l) n1 | x => False), ct := NX } [.val (.bag a), .val (bookD b), .val (.int m), .val (rowD (runD r L)), .val (.int s), .val x, .own L, s7, .val (.lst (openL b m (runD r L))), .val (.lst A), .val d] n2 := by
      intro d s7 A n2 hd d1 d2
      obtain ⟨w, l, rfl, _⟩ := deed_form hb m3 (open_mem.mp hd).1
      unfold wb_law_walk_3; walk_at "w"
      refine ⟨by decide, ?_⟩
      unfold wb_law_walk_2; walk_at "w"
      refine ⟨szl (by omega), ?_⟩
      unfold wb_law_walk_1; walk_at "w"
      refine ⟨b, m, _, _, rfl, hb, m3, (open_mem.mp hd).1, by omega, ?_⟩
      have this : runD r (L ++ [.tup (.str w :: l)]) = behD (runD r L) (.tup (.str w :: l)) := by
        unfold runD; rw [List.foldl_append]; rfl
      rw [← this]
      exact hNX _ _ ⟨by omega, by omega, L ++ [.tup (.str w :: l)], [.str w], _, _, _, _, ok_snoc ok hd, by rw [List.length_append, List.length_singleton]; omega, .inr ⟨w, rfl⟩, rfl⟩
    have rest : ∀ A s7, LV s7 K → (∀ d ∈ A, d ∈ openL b m (runD r L)) → A.length ≤ 12 → wb_law_walk_4 { nx := NX, rt := Q, bk := fun ρ1 n1 => (match ρ1[6]? with | some (SV.val d) => ∃ l, seqOf (RV.val d) = some l ∧ Q (D.tup l) n1 | some (SV.own l) => Q (D.tup l) n1 | x => False), ct := NX } [.val (.bag a), .val (bookD b), .val (.int m), .val (rowD (runD r L)), .val (.int s), .val x, .own L, s7, .val (.lst (openL b m (runD r L))), .own A, .un] n' := by
      intro A s7 _ hA hAl
      unfold wb_law_walk_4; walk_at "w"
      have big : (openL b m (runD r L)).length ≤ 1000000 := by omega
      have last : ∀ n2, n' ≤ n2 → n2 ≤ n' + 1 → c_law_pick [.bag a, .lst (openL b m (runD r L))] n2 fun d n2 => wb_law_walk_3 { nx := NX, rt := Q, bk := fun ρ1 n1 => (match ρ1[6]? with | some (SV.val d) => ∃ l, seqOf (RV.val d) = some l ∧ Q (D.tup l) n1 | some (SV.own l) => Q (D.tup l) n1 | x => False), ct := NX } [.val (.bag a), .val (bookD b), .val (.int m), .val (rowD (runD r L)), .val (.int s), .val x, .own L, s7, .val (.lst (openL b m (runD r L))), .val (.lst A), .val d] n2 := by
        intro n2 d1 d2
        refine ⟨a, _, _, rfl, rfl, hne, big, by omega, ?_⟩
        intro d n3 hd d3 d4
        exact three d s7 A n3 hd (by omega) (by omega)
      refine ⟨by decide, ?_⟩
      by_cases hA0 : A.isEmpty = false
      · rw [if_pos hA0]
        have hA1 : 1 ≤ A.length := by
          cases A with
          | nil => cases hA0
          | cons _ _ => simp
        refine ⟨a, 3, rfl, by decide, by decide, by omega, ?_⟩
        rintro _ n2 ⟨k, rfl, k0, k3⟩ d1 d2
        walk_at "w"
        by_cases hk : 0 < k
        · rw [if_pos hk]
          refine ⟨a, _, _, rfl, rfl, hA1, by omega, by omega, ?_⟩
          intro d n3 hd d3 d4
          exact three d s7 A n3 (hA d hd) (by omega) (by omega)
        · rw [if_neg hk]
          exact last n2 d1 d2
      · rw [if_neg hA0]
        exact last n' (Nat.le_refl _) (by omega)
    unfold wb_law_walk_5; walk_at "w"
    refine comp_inv (fun j acc ρ n2 => n2 = n' ∧ (∀ d ∈ acc, d ∈ openL b m (runD r L)) ∧ acc.length ≤ j ∧ ∃ s7, LV s7 K ∧ ρ = [.val (.bag a), .val (bookD b), .val (.int m), .val (rowD (runD r L)), .val (.int s), .val x, .own L, s7, .val (.lst (openL b m (runD r L))), x9, .un]) ?_ ⟨rfl, by simp, Nat.le_refl _, _, .inl rfl, rfl⟩ ?_
    · rintro j d acc ρ n2 hd ⟨rfl, hacc, hj, s7, h7, rfl⟩ K2 hK2
      have hj2 : j < (openL b m (runD r L)).length := (List.getElem?_eq_some_iff.mp hd).1
      have hmd := List.mem_of_getElem? hd
      obtain ⟨w, l, rfl, _⟩ := deed_form hb m3 (open_mem.mp hmd).1
      have yes : acc.length < sizeLine ∧ K2 (acc ++ [.tup (.str w :: l)]) [.val (.bag a), .val (bookD b), .val (.int m), .val (rowD (runD r L)), .val (.int s), .val x, .own L, .val (.lst K), .val (.lst (openL b m (runD r L))), x9, .un] n2 := by
        refine ⟨szl (by omega), hK2 _ _ _ ⟨rfl, fun d hd => ?_, by rw [List.length_append, List.length_singleton]; omega, _, .inr rfl, rfl⟩⟩
        rcases List.mem_append.mp hd with hd | hd
        · exact hacc d hd
        · rw [List.mem_singleton] at hd; subst hd; exact hmd
      have no : K2 acc [.val (.bag a), .val (bookD b), .val (.int m), .val (rowD (runD r L)), .val (.int s), .val x, .own L, .val (.lst K), .val (.lst (openL b m (runD r L))), x9, .un] n2 := hK2 _ _ _ ⟨rfl, hacc, by omega, _, .inr rfl, rfl⟩
      rcases h7 with rfl | rfl <;> rcases hK with rfl | ⟨w', rfl⟩ <;> walk_at "w"
      · refine ⟨by decide, ?_⟩
        rw [if_neg (by decide)]
        exact no
      · refine ⟨by decide, ?_⟩
        rw [if_pos (by rfl)]
        by_cases hw : w = w'
        · rw [if_pos hw]; exact yes
        · rw [if_neg hw]; exact no
      · refine ⟨by decide, ?_⟩
        rw [if_neg (by decide)]
        exact no
      · refine ⟨by decide, ?_⟩
        rw [if_pos (by rfl)]
        by_cases hw : w = w'
        · rw [if_pos hw]; exact yes
        · rw [if_neg hw]; exact no
    · rintro acc ρ n2 ⟨rfl, hacc, hj, s7, h7, rfl⟩
      walk_at "w"
      exact rest acc s7 h7 hacc (by omega)
  · rintro ρ n' ⟨c1, c2, L, K, x5, x8, x9, x10, ok, hL, hK, rfl⟩
    rw [rgD_len] at hL c2
    walk_at "w"
    exact hq _ _ ⟨L, rfl, hL, ok⟩ c1 (by omega)
end Ly.K14

namespace Ly.K14
open PySem PySem.Spec PyProof.Rows L2
local macro_rules | `(tactic| walk_at "w") => `(tactic| try simp only [wRet, wRetN, wAndV, wOrV, wNotV, wCB, wCons, wNil, wV, wC, wChain, wTst, wTNot, wTAnd, wTOr, wIf, wOp, wIxN, wIx, wTup, wLst, wLenN, wSeq, wSkip, wIfS, wSet, wAsg, wgTup_iff, wgCons_iff, wgNil_iff, wgN, wCall, wCall0, wPar2, wPar3, wSl, woN, woS, wNeg, wDrop, wDct, wDct1, wListR1, wFor, wiR1, wiR2, wiSeq, wiEn, wiZip, wLc, wYes, wApp, wPop, wgIx,
  gIsi_iff, gLen_iff, gTuple_iff, gList_iff, gAll_iff, gI_iff, gAbs_iff, gMM_iff, gInt_iff, gEq_int, gEq_str, gEq_emp, listOf, gAdd_int, gAdd_tup, gAdd_lst, gAdd_lstN, gAdd_Nlst, gAdd_new, gMul_int, gMul_tup, gIsN_iff, gSl_tup, gSl_lst, gSl_new, sqL, sqT, sqN, ssL, ssT, ssO, dOf_val, dOf_new, svOf_val, svOf_new, kI_non, kI_bl, kI_int, kI_str, kI_tup, kI_lst, kI_dct, kI_dc0, kB_non, kB_bl, kB_int, kB_str, kB_tup, kB_lst, kB_dct, kB_dc0, kT_non, kT_bl, kT_int, kT_str, kT_tup, kT_lst, kT_dct, kT_dc0, kS_non, kS_bl, kS_int, kS_str, kS_tup, kS_lst, kS_dct, kS_dc0, wipeD,
  List.getElem?_cons_zero, List.getElem?_cons_succ, List.getElem?_nil, List.set_cons_zero, List.set_cons_succ, List.map_cons, List.map_nil, List.length_cons, List.length_nil, RV.val.injEq, RV.new.injEq, D.bl.injEq, D.int.injEq, D.str.injEq, D.tup.injEq, D.lst.injEq, SV.val.injEq, SV.own.injEq, Option.some.injEq, exists_eq_left', exists_eq_left, exists_and_left, exists_eq_right, true_and, and_true, Bool.not_true, Bool.not_false, Bool.false_eq_true, if_true, if_false, reduceIte, ite_self, Bool.true_xor, Bool.false_xor, Bool.not_eq_true', decide_eq_true_eq, List.cons.injEq, isNon, exists_eq, exists_eq', at0, at1, mvD_len, tlD_len, rowD_def, wDNew, wDGet, wDIn, wDPut, wDOne, wAugI, wTry, wRaise, wCallX, wInG, wExt, wCallK, wDc0, pick, List.filterMap_cons, List.filterMap_nil, isOwnD, SV.ownD.injEq, svOf_newD, key_pair])
open Ly.K12
theorem deed_relet {b : List Str} {m : Nat} {w : Str} {k k' : Nat} (hb : b ∈ theBooks) (h : D.tup [.str w, .int k] ∈ deedsL b m) (hk : k' < m) : D.tup [.str w, .int k'] ∈ deedsL b m := by
  rcases deed_shape hb h with ⟨w', k2, e, hw, hwb, _⟩ | ⟨w', e, _⟩
  · simp only [D.tup.injEq, List.cons.injEq, D.str.injEq] at e
    obtain ⟨rfl, _⟩ := e
    refine List.mem_flatMap.mpr ⟨w, hwb, ?_⟩
    unfold deed1
    rw [if_pos (by rcases hw with rfl | rfl | rfl <;> decide)]
    exact List.mem_map.mpr ⟨k', List.mem_range.mpr hk, rfl⟩
  · simp at e
theorem h_law_slid : ∀ ds n Q, ds.length = 2 → c_law_slid ds n Q → wb_law_slid { nx := fun _ n' => Q .non n', rt := Q } (startD ["row", "deeds", "deed"] ds) n := by
  rintro ds n Q - ⟨m, r, l, rfl, m3, hd, hl, hr, hq⟩
  show wb_law_slid _ [.val (rowD r), .val (.tup l), .un] n
  unfold wb_law_slid; walk_at "w"
  refine comp_map (fun i d => ∃ x, l[i]? = some x ∧ d = ltI x) 0 ?_ (by omega) ?_
  · intro i x n' hx c1 c2 K hK
    rcases deed_shape (b := [("slide" : Str)]) (by decide) (hd x (List.mem_of_getElem? hx)) with ⟨w, k, rfl, hw, hwb, _⟩ | ⟨w, rfl, hw, hw2⟩
    · walk_at "w"
      exact hK _ _ _ ⟨_, hx, rfl⟩ rfl (Nat.le_refl _) (by omega)
    · rw [List.mem_singleton] at hw2; subst hw2; rcases hw with hw | hw <;> exact absurd hw (by decide)
  · intro l2 n2 hl2 hP c1 c2
    have e : l2 = l.map ltI := by
      refine List.ext_getElem? fun i => ?_
      rw [List.getElem?_map]
      by_cases hi : i < l.length
      · rw [List.getElem?_eq_getElem (by omega)]
        obtain ⟨x, hx, he⟩ := hP i _ (List.getElem?_eq_getElem (by omega))
        rw [hx, he]; rfl
      · rw [List.getElem?_eq_none (by omega), List.getElem?_eq_none (by omega)]; rfl
    have en : n2 = n := by omega
    subst en e
    rw [run_slid hd hl] at hq
    rw [cut_from, ← List.map_drop]
    exact ⟨sz (by simp only [List.length_map, List.length_drop]; omega), hq⟩
theorem h_law_relettered : ∀ ds n Q, ds.length = 3 → c_law_relettered ds n Q → wb_law_relettered { nx := fun _ n' => Q .non n', rt := Q } (startD ["pot", "many", "deeds", "deed"] ds) n := by
  rintro ds n Q - ⟨a, b, m, l, rfl, hb, m1, m3, hl, hd, hbd, hq⟩
  show wb_law_relettered _ [.val (.bag a), .val (.int m), .val (.tup l), .un] n
  unfold wb_law_relettered; walk_at "w"
  refine comp_map (fun i d => ∃ x, l[i]? = some x ∧ firstW d = firstW x ∧ d ∈ deedsL b m) 1 ?_ (by omega) ?_
  · intro i x n' hx c1 c2 K hK
    have hi : i < l.length := (List.getElem?_eq_some_iff.mp hx).1
    have hxd := hd x (List.mem_of_getElem? hx)
    rcases deed_shape hb hxd with ⟨w, k, rfl, hw, hwb, _⟩ | ⟨w, rfl, hw, hw2⟩
    · walk_at "w"
      rw [if_pos (by decide)]
      refine ⟨a, m, rfl, by omega, by omega, by omega, ?_⟩
      rintro _ n3 ⟨k', rfl, k0, k1⟩ d1 d2
      obtain ⟨k2, rfl⟩ : ∃ k2 : Nat, k' = (k2 : Int) := ⟨k'.toNat, by omega⟩
      exact ⟨by decide, hK _ _ _ ⟨_, hx, rfl, deed_relet hb hxd (by omega)⟩ rfl d1 d2⟩
    · walk_at "w"
      rw [if_neg (by decide)]
      exact hK _ _ _ ⟨_, hx, rfl, hxd⟩ rfl (Nat.le_refl _) (by omega)
  · intro l2 n2 hl2 hP c1 c2
    refine hq _ _ ⟨l2, rfl, ?_, ?_⟩ c1 (by omega)
    · refine List.ext_getElem? fun i => ?_
      rw [List.getElem?_map, List.getElem?_map]
      by_cases hi : i < l.length
      · rw [List.getElem?_eq_getElem (by omega)]
        obtain ⟨x, hx, he, _⟩ := hP i _ (List.getElem?_eq_getElem (by omega))
        rw [hx]
        exact congrArg some he
      · rw [List.getElem?_eq_none (by omega), List.getElem?_eq_none (by omega)]
    · intro d hd2
      obtain ⟨i, hi⟩ := List.getElem?_of_mem hd2
      obtain ⟨_, _, _, h⟩ := hP i d hi
      exact h
end Ly.K14

namespace Ly.K14
open PySem PySem.Spec PyProof.Rows L2
local macro_rules | `(tactic| walk_at "w") => `(tactic| try simp only [wRet, wRetN, wAndV, wOrV, wNotV, wCB, wCons, wNil, wV, wC, wChain, wTst, wTNot, wTAnd, wTOr, wIf, wOp, wIxN, wIx, wTup, wLst, wLenN, wSeq, wSkip, wIfS, wSet, wAsg, wgTup_iff, wgCons_iff, wgNil_iff, wgN, wCall, wCall0, wPar2, wPar3, wSl, woN, woS, wNeg, wDrop, wDct, wDct1, wListR1, wFor, wiR1, wiR2, wiSeq, wiEn, wiZip, wLc, wYes, wApp, wPop, wgIx,
  gIsi_iff, gLen_iff, gTuple_iff, gList_iff, gAll_iff, gI_iff, gAbs_iff, gMM_iff, gInt_iff, gEq_int, gEq_str, gEq_emp, listOf, gAdd_int, gAdd_tup, gAdd_lst, gAdd_lstN, gAdd_Nlst, gAdd_new, gMul_int, gMul_tup, gIsN_iff, gSl_tup, gSl_lst, gSl_new, sqL, sqT, sqN, ssL, ssT, ssO, dOf_val, dOf_new, svOf_val, svOf_new, kI_non, kI_bl, kI_int, kI_str, kI_tup, kI_lst, kI_dct, kI_dc0, kB_non, kB_bl, kB_int, kB_str, kB_tup, kB_lst, kB_dct, kB_dc0, kT_non, kT_bl, kT_int, kT_str, kT_tup, kT_lst, kT_dct, kT_dc0, kS_non, kS_bl, kS_int, kS_str, kS_tup, kS_lst, kS_dct, kS_dc0, wipeD,
  List.getElem?_cons_zero, List.getElem?_cons_succ, List.getElem?_nil, List.set_cons_zero, List.set_cons_succ, List.map_cons, List.map_nil, List.length_cons, List.length_nil, RV.val.injEq, RV.new.injEq, D.bl.injEq, D.int.injEq, D.str.injEq, D.tup.injEq, D.lst.injEq, SV.val.injEq, SV.own.injEq, Option.some.injEq, exists_eq_left', exists_eq_left, exists_and_left, exists_eq_right, true_and, and_true, Bool.not_true, Bool.not_false, Bool.false_eq_true, if_true, if_false, reduceIte, ite_self, Bool.true_xor, Bool.false_xor, Bool.not_eq_true', decide_eq_true_eq, List.cons.injEq, isNon, exists_eq, exists_eq', at0, at1, mvD_len, tlD_len, rowD_def, wDNew, wDGet, wDIn, wDPut, wDOne, wAugI, wTry, wRaise, wCallX, wInG, wExt, wCallK, wDc0, pick, List.filterMap_cons, List.filterMap_nil, isOwnD, SV.ownD.injEq, svOf_newD, key_pair])
open Ly.K12
def mid (r : List Int) (f t : Nat) : List Int := (r.drop f).take (t - f)
theorem cut_mid {r : List Int} {f t : Nat} (h : f ≤ t) (ht : t ≤ r.length) : cutD (r.map .int) (some (f : Int)) (some (t : Int)) = (mid r f t).map .int := by
  unfold cutD mid
  rw [HT.sIx_nat, HT.sIx_nat, List.length_map, show min f r.length = f by omega, show min t r.length = t by omega, List.map_take, List.map_drop]
theorem mid_len {r : List Int} {f t : Nat} (ht : t ≤ r.length) : (mid r f t).length = t - f := by
  unfold mid
  rw [List.length_take, List.length_drop]; omega
theorem mid_ne {r : List Int} {f t : Nat} (h : f < t) (ht : t ≤ r.length) : mid r f t ≠ [] := by
  intro e
  have := mid_len (f := f) ht
  rw [e] at this
  simp at this; omega
theorem mid_nil {r : List Int} {f t : Nat} (h : ¬ f < t) : mid r f t = [] := by
  unfold mid
  rw [show t - f = 0 by omega, List.take_zero]
theorem mid_tail {r : List Int} {f t : Nat} : (mid r f t).tail = mid r (f + 1) t := by
  unfold mid
  rw [← List.drop_one, List.drop_take, List.drop_drop, show t - f - 1 = t - (f + 1) by omega]
theorem mid_drop {r : List Int} {f t : Nat} (h : f < t) (ht : t ≤ r.length) : (mid r f t).dropLast = mid r f (t - 1) := by
  rw [List.dropLast_eq_take, mid_len ht]
  unfold mid
  rw [List.take_take, show min (t - f - 1) (t - f) = t - 1 - f by omega]
theorem tail_app {x y : List Int} (h : x ≠ []) : (x ++ y).tail = x.tail ++ y := by
  cases x with
  | nil => exact absurd rfl h
  | cons _ _ => rfl
theorem last_app {x y : List Int} (h : y ≠ []) : (x ++ y).dropLast = x ++ y.dropLast := List.dropLast_append_of_ne_nil h
theorem h_law_record : ∀ ds n Q, ds.length = 2 → c_law_record ds n Q → wb_law_record { nx := fun _ n' => Q .non n', rt := Q } (startD ["row", "deeds", "deed", "ahead", "first", "last", "behind"] ds) n := by
  rintro ds n Q - ⟨b, m, r, l, rfl, hb, m3, hs, ok, hl, hr, hq⟩
  show wb_law_record _ [.val (rowD r), .val (.tup l), .un, .un, .un, .un, .un] n
  unfold wb_law_record; walk_at "w"
  refine ⟨by decide, by decide, by decide, ?_⟩
  rw [List.length_map]
  unfold wb_law_record_3; walk_at "w"
  refine loop_inv (fun i ρ n' => n' = n ∧ i ≤ l.length ∧ ∃ A B : List Int, ∃ f t : Nat, ∃ x2 s3 s6, LV s3 (A.map .int) ∧ LV s6 (B.map .int) ∧ f ≤ t ∧ t ≤ r.length ∧ A.length ≤ i ∧ B.length ≤ i ∧ runD r (l.take i) = A ++ mid r f t ++ B ∧ ρ = [.val (rowD r), .val (.tup l), x2, s3, .val (.int f), .val (.int t), s6]) ?_ ⟨rfl, by omega, [], [], 0, r.length, _, _, _, .inr rfl, .inr rfl, by omega, by omega, by simp, by simp, by simp [runD, mid], rfl⟩ ?_
  · rintro i d ρ n' hd ⟨rfl, _, A, B, f, t, x2, s3, s6, h3, h6, ft, tr, hA, hB, hrun, rfl⟩ NX hNX
    have hi : i < l.length := (List.getElem?_eq_some_iff.mp hd).1
    have step : ∀ A' B' : List Int, ∀ f' t' : Nat, ∀ s3 s6, LV s3 (A'.map .int) → LV s6 (B'.map .int) → f' ≤ t' → t' ≤ r.length → A'.length ≤ i + 1 → B'.length ≤ i + 1 → behD (A ++ mid r f t ++ B) d = A' ++ mid r f' t' ++ B' → NX [.val (rowD r), .val (.tup l), .val d, s3, .val (.int f'), .val (.int t'), s6] n' := by
      intro A' B' f' t' s3 s6 g3 g6 g1 g2 g4 g5 g7
      refine hNX _ _ ⟨rfl, hi, A', B', f', t', _, _, _, g3, g6, g1, g2, g4, g5, ?_, rfl⟩
      rw [run_succ hd, hrun, g7]
    clear hNX hrun
    rcases deed_shape hb (ok_mem ok d (List.mem_of_getElem? hd)) with ⟨w, k, rfl, (rfl | rfl | rfl), hwb, _⟩ | ⟨w, rfl, (rfl | rfl), _⟩
    · rw [beh_pl] at step
      rcases h3 with rfl | rfl <;> rcases h6 with rfl | rfl <;> unfold wb_law_record_1 <;> walk_at "w"
      all_goals
        refine ⟨by decide, sz (by rw [List.length_map]; omega), ?_⟩
        exact step (k :: A) B f t _ _ (by first | exact .inl rfl | exact .inr rfl) (by first | exact .inl rfl | exact .inr rfl) ft tr (by rw [List.length_cons]; omega) (by omega) rfl
    · rw [beh_pr] at step
      rcases h3 with rfl | rfl <;> rcases h6 with rfl | rfl <;> unfold wb_law_record_1 <;> walk_at "w"
      all_goals
        rw [if_neg (by decide)]
        refine ⟨by decide, sz (by rw [List.length_map]; omega), ?_⟩
        have e : B.map D.int ++ [D.int (k : Int)] = (B ++ [(k : Int)]).map D.int := by rw [List.map_append]; rfl
        rw [e]
        exact step A (B ++ [(k : Int)]) f t _ _ (by first | exact .inl rfl | exact .inr rfl) (by first | exact .inl rfl | exact .inr rfl) ft tr (by omega) (by rw [List.length_append, List.length_singleton]; omega) (by rw [List.append_assoc])
    · exact absurd hwb hs
    · rw [beh_tl] at step
      rcases h3 with rfl | rfl <;> rcases h6 with rfl | rfl <;> unfold wb_law_record_1 <;> walk_at "w"
      all_goals
        rw [if_neg (by decide), if_neg (by decide)]
        refine ⟨by decide, ?_⟩
        by_cases hA0 : A = []
        · subst hA0
          rw [if_neg (by simp)]
          by_cases hf : f < t
          · rw [if_pos (by omega), show (f : Int) + 1 = ((f + 1 : Nat) : Int) from rfl]
            exact step [] B (f + 1) t _ _ (by first | exact .inl rfl | exact .inr rfl) (by first | exact .inl rfl | exact .inr rfl) (by omega) tr (by simp) (by omega) (by rw [List.nil_append, List.nil_append, tail_app (mid_ne hf tr), mid_tail])
          · rw [if_neg (by omega), cut_tail]
            exact step [] B.tail f t _ _ (by first | exact .inl rfl | exact .inr rfl) (by first | exact .inl rfl | exact .inr rfl) ft tr (by simp) (by rw [List.length_tail]; omega) (by rw [mid_nil hf]; rfl)
        · rw [if_pos (by cases A with | nil => exact absurd rfl hA0 | cons _ _ => rfl), cut_tail]
          exact step A.tail B f t _ _ (by first | exact .inl rfl | exact .inr rfl) (by first | exact .inl rfl | exact .inr rfl) ft tr (by rw [List.length_tail]; omega) (by omega) (by rw [List.append_assoc, tail_app hA0, List.append_assoc])
    · rw [beh_tr] at step
      rcases h3 with rfl | rfl <;> rcases h6 with rfl | rfl <;> unfold wb_law_record_1 <;> walk_at "w"
      all_goals
        rw [if_neg (by decide), if_neg (by decide), if_neg (by decide)]
        refine ⟨by decide, ?_⟩
        by_cases hB0 : B = []
        · subst hB0
          rw [if_neg (by simp)]
          by_cases hf : f < t
          · rw [if_pos (by omega), show (t : Int) - 1 = ((t - 1 : Nat) : Int) by omega]
            exact step A [] f (t - 1) _ _ (by first | exact .inl rfl | exact .inr rfl) (by first | exact .inl rfl | exact .inr rfl) (by omega) (by omega) (by omega) (by simp) (by rw [List.append_nil, List.append_nil, last_app (mid_ne hf tr), mid_drop hf tr])
          · rw [if_neg (by omega), cut_last]
            exact step A.dropLast [] f t _ _ (by first | exact .inl rfl | exact .inr rfl) (by first | exact .inl rfl | exact .inr rfl) ft tr (by rw [List.length_dropLast]; omega) (by simp) (by rw [mid_nil hf]; simp)
        · rw [if_pos (by cases B with | nil => exact absurd rfl hB0 | cons _ _ => rfl), cut_last]
          exact step A B.dropLast f t _ _ (by first | exact .inl rfl | exact .inr rfl) (by first | exact .inl rfl | exact .inr rfl) ft tr (by omega) (by rw [List.length_dropLast]; omega) (by rw [last_app hB0])
  · rintro ρ n' ⟨rfl, _, A, B, f, t, x2, s3, s6, h3, h6, ft, tr, hA, hB, hrun, rfl⟩
    rw [List.take_length] at hrun
    have := hq _ _ _ hrun
    rcases h3 with rfl | rfl <;> rcases h6 with rfl | rfl <;> unfold wb_law_record_2 <;> walk_at "w"
    all_goals
      rw [cut_mid ft tr]
      exact ⟨by decide, this⟩
end Ly.K14

namespace Ly.K14
open PySem PySem.Spec PyProof.Rows L2
local macro_rules | `(tactic| walk_at "w") => `(tactic| try simp only [wRet, wRetN, wAndV, wOrV, wNotV, wCB, wCons, wNil, wV, wC, wChain, wTst, wTNot, wTAnd, wTOr, wIf, wOp, wIxN, wIx, wTup, wLst, wLenN, wSeq, wSkip, wIfS, wSet, wAsg, wgTup_iff, wgCons_iff, wgNil_iff, wgN, wCall, wCall0, wPar2, wPar3, wSl, woN, woS, wNeg, wDrop, wDct, wDct1, wListR1, wFor, wiR1, wiR2, wiSeq, wiEn, wiZip, wLc, wYes, wApp, wPop, wgIx,
  gIsi_iff, gLen_iff, gTuple_iff, gList_iff, gAll_iff, gI_iff, gAbs_iff, gMM_iff, gInt_iff, gEq_int, gEq_str, gEq_emp, listOf, gAdd_int, gAdd_tup, gAdd_lst, gAdd_lstN, gAdd_Nlst, gAdd_new, gMul_int, gMul_tup, gIsN_iff, gSl_tup, gSl_lst, gSl_new, sqL, sqT, sqN, ssL, ssT, ssO, dOf_val, dOf_new, svOf_val, svOf_new, kI_non, kI_bl, kI_int, kI_str, kI_tup, kI_lst, kI_dct, kI_dc0, kB_non, kB_bl, kB_int, kB_str, kB_tup, kB_lst, kB_dct, kB_dc0, kT_non, kT_bl, kT_int, kT_str, kT_tup, kT_lst, kT_dct, kT_dc0, kS_non, kS_bl, kS_int, kS_str, kS_tup, kS_lst, kS_dct, kS_dc0, wipeD,
  List.getElem?_cons_zero, List.getElem?_cons_succ, List.getElem?_nil, List.set_cons_zero, List.set_cons_succ, List.map_cons, List.map_nil, List.length_cons, List.length_nil, RV.val.injEq, RV.new.injEq, D.bl.injEq, D.int.injEq, D.str.injEq, D.tup.injEq, D.lst.injEq, SV.val.injEq, SV.own.injEq, Option.some.injEq, exists_eq_left', exists_eq_left, exists_and_left, exists_eq_right, true_and, and_true, Bool.not_true, Bool.not_false, Bool.false_eq_true, if_true, if_false, reduceIte, ite_self, Bool.true_xor, Bool.false_xor, Bool.not_eq_true', decide_eq_true_eq, List.cons.injEq, isNon, exists_eq, exists_eq', at0, at1, mvD_len, tlD_len, rowD_def, wDNew, wDGet, wDIn, wDPut, wDOne, wAugI, wTry, wRaise, wCallX, wInG, wExt, wCallK, wDc0, pick, List.filterMap_cons, List.filterMap_nil, isOwnD, SV.ownD.injEq, svOf_newD, key_pair])
open Ly.K12
def chkS (b : List Str) : Bool := match toPy (bookD b), toPy (.tup [.str "slide"]) with
  | some p, some q => SeqAt.shaped p && SeqAt.shaped q && (PyData.eqv p q == decide (b = [("slide" : Str)]))
  | _, _ => false
theorem chkS_all : ∀ b ∈ theBooks, chkS b = true := by decide +kernel
theorem gEq_slide {b : List Str} {R : RV → Prop} (hb : b ∈ theBooks) (h : R (.val (.bl (decide (b = [("slide" : Str)]))))) : gEq false (.val (bookD b)) (.val (.tup [.str (Str.ofString "slide")])) R := by
  have c := chkS_all b hb
  unfold chkS at c
  split at c
  · rename_i p q e1 e2
    rw [Bool.and_eq_true, Bool.and_eq_true] at c
    obtain ⟨⟨c1, c2⟩, c3⟩ := c
    refine ⟨p, q, e1, e2, c1, c2, ?_⟩
    rw [eq_of_beq c3]
    simpa using h
  · cases c
theorem no_slide : ∀ b ∈ theBooks, b = [("slide" : Str)] ∨ ("slide" : Str) ∉ b := by decide +kernel
theorem deeds_shT {b : List Str} {m : Nat} (hb : b ∈ theBooks) (hm : m ≤ 3) {l : List D} (hs : ∀ d ∈ l, d ∈ deedsL b m) : ShR 2 (l.length * 102 + 2) (.tup l) := shR_tup (k := 1) (b := 100) (l := l) fun d hd => shR_of (deeds_form b hb m (by omega) d (hs d hd))
theorem h_law_is_left : ∀ ds n Q, ds.length = 5 → c_law_is_left ds n Q → wb_law_is_left { nx := fun _ n' => Q .non n', rt := Q } (startD ["pot", "book", "many", "row", "deeds", "other", "said", "kept", "due", "ahead", "piece", "behind"] ds) n := by
  rintro ds n Q - ⟨a, b, m, r, l, rfl, hb, m1, m3, hl, hr, hrx, ok, hsl, hbd, hq⟩
  show wb_law_is_left _ [.val (.bag a), .val (bookD b), .val (.int m), .val (rowD r), .val (.tup l), .un, .un, .un, .un, .un, .un, .un] n
  have hd := ok_mem ok
  have hr3 : ∀ x ∈ r, 0 ≤ x ∧ x < (3 : Int) := fun x hx => ⟨(hrx x hx).1, by have := (hrx x hx).2; omega⟩
  have hrl := run_le hb (r := r) hd
  have hrt := run_let hb m3 hd hr3
  have shr : ∀ q : List Int, q.length ≤ 200 → (∀ x ∈ q, 0 ≤ x ∧ x < (3 : Int)) → ShR 4 1000 (rowD q) := fun q h1 h2 => (row_shR fun x hx => ⟨(h2 x hx).1, by have := (h2 x hx).2; omega⟩).mono (by decide) (by omega)
  have shk : ShR 5 20006 (.lst [rowD r, .tup l]) := by
    refine (shR_lst (k := 4) (b := 10000) (l := [rowD r, .tup l]) fun d hd2 => ?_).mono (by decide) (by simp)
    simp only [List.mem_cons, List.not_mem_nil, or_false] at hd2
    rcases hd2 with rfl | rfl
    · exact (shr r (by omega) hr3).mono (by decide) (by decide)
    · exact (deeds_shT hb m3 hd).mono (by decide) (by omega)
  have shs := shr _ (by omega) hrt
  unfold wb_law_is_left; walk_at "w"
  refine ⟨b, m, r, l, rfl, hb, m1, m3, by omega, by omega, ok, ?_⟩
  refine ⟨by decide, ?_⟩
  refine gReprR_of (r := .new [rowD r, .tup l]) shk (by decide) (by decide) ?_
  refine ⟨_, _, ⟨rfl, rfl⟩, ?_⟩
  have five : ∀ x9 x10 x11, wb_law_is_left_5 { nx := fun _ n' => Q .non n', rt := Q } [.val (.bag a), .val (bookD b), .val (.int m), .val (rowD r), .val (.tup l), .un, .val (rowD (runD r l)), .val (.str (reprD (.lst [rowD r, .tup l]))), .val (rowD (runD r l)), x9, x10, x11] n := by
    intro x9 x10 x11
    unfold wb_law_is_left_5; walk_at "w"
    refine gReprR_of (r := .val (rowD (runD r l))) shs (by decide) (by decide) ?_
    refine gReprR_of (r := .val (rowD (runD r l))) shs (by decide) (by decide) ?_
    refine ⟨false, ?_, ?_⟩
    · show RV.val (.bl (xor true (decide (_ = _)))) = _
      simp [dOf]
    walk_at "w"
    unfold wb_law_is_left_4; walk_at "w"
    rw [List.length_map]
    refine ⟨a, m, r.length, rfl, m1, m3, by omega, by omega, ?_⟩
    rintro _ n2 ⟨r2, rfl, hr2, hx2⟩ d1 d2
    refine ⟨a, b, m, l, rfl, hb, m1, m3, by omega, hd, by omega, ?_⟩
    rintro _ n3 ⟨l2, rfl, hm2, hd2⟩ d3 d4
    have hl2 : l2.length = l.length := by
      have := congrArg List.length hm2
      rw [List.length_map, List.length_map] at this
      exact this
    obtain ⟨ok2, len2⟩ := ok_like hb ok hr2 hm2 hd2
    refine ⟨b, m, r2, l2, rfl, hb, m1, m3, by omega, by omega, ok2, ?_⟩
    unfold wb_law_is_left_3; walk_at "w"
    rw [if_neg (by rw [List.length_map, List.length_map, len2]; simp)]
    refine ⟨b, m, _, rfl, hb, m1, m3, ?_⟩
    have flen : (openL b m (runD r l)).length ≤ 12 := Nat.le_trans (List.length_filter_le _ _) (Nat.le_trans (deeds_len m3) (by have := books_len b hb; omega))
    have sho := (deeds_shT hb m3 (l := openL b m (runD r l)) fun d hd => (open_mem.mp hd).1).mono (k' := 3) (b' := 5000) (by decide) (by omega)
    rw [open_like len2]
    refine gReprR_of (r := .val (.tup (openL b m (runD r l)))) sho (by decide) (by decide) ?_
    refine ⟨b, m, _, rfl, hb, m1, m3, ?_⟩
    refine gReprR_of (r := .val (.tup (openL b m (runD r l)))) sho (by decide) (by decide) ?_
    refine ⟨false, ?_, ?_⟩
    · show RV.val (.bl (xor true (decide (_ = _)))) = _
      simp [dOf]
    walk_at "w"
    unfold wb_law_is_left_2; walk_at "w"
    refine ⟨by decide, ?_⟩
    refine gReprR_of (r := .new [rowD r, .tup l]) shk (by decide) (by decide) ?_
    show Q (dOf (RV.val (.bl (xor false (decide (_ = _)))))) n3
    have e : decide (reprD (dOf (RV.new [rowD r, D.tup l])) = reprD (D.lst [D.tup (r.map D.int), D.tup l])) = true := decide_eq_true rfl
    rw [e]
    exact hq _ _ rfl (by omega) (by omega)
  unfold wb_law_is_left_6; walk_at "w"
  refine ⟨by decide, gEq_slide hb ?_⟩
  by_cases hbs : b = [("slide" : Str)]
  · refine ⟨true, by rw [decide_eq_true hbs], ?_⟩
    rw [if_pos rfl]
    refine ⟨m, r, l, rfl, m3, by rw [← hbs]; exact hd, hsl hbs, by omega, ?_⟩
    exact five _ _ _
  · refine ⟨false, by rw [decide_eq_false hbs], ?_⟩
    rw [if_neg (by decide)]
    refine ⟨b, m, r, l, rfl, hb, m3, (no_slide b hb).resolve_left hbs, ok, by omega, by omega, ?_⟩
    intro A P B hABP
    walk_at "w"
    unfold wb_law_is_left_1; walk_at "w"
    have hlen := congrArg List.length hABP
    rw [List.length_append, List.length_append] at hlen
    refine ⟨sz (by rw [List.length_map, List.length_map]; omega), sz (by rw [List.length_append, List.length_map, List.length_map, List.length_map]; omega), ?_⟩
    have := five (.val (.lst (A.map .int))) (.val (.tup (P.map .int))) (.val (.lst (B.map .int)))
    rw [rowD_def, rowD_def, hABP, List.map_append, List.map_append] at this
    rw [hABP, List.map_append, List.map_append]
    exact this
end Ly.K14

namespace Ly.K14
open PySem PySem.Spec PyProof.Rows L2
local macro_rules | `(tactic| walk_at "w") => `(tactic| try simp only [wRet, wRetN, wAndV, wOrV, wNotV, wCB, wCons, wNil, wV, wC, wChain, wTst, wTNot, wTAnd, wTOr, wIf, wOp, wIxN, wIx, wTup, wLst, wLenN, wSeq, wSkip, wIfS, wSet, wAsg, wgTup_iff, wgCons_iff, wgNil_iff, wgN, wCall, wCall0, wPar2, wPar3, wSl, woN, woS, wNeg, wDrop, wDct, wDct1, wListR1, wFor, wiR1, wiR2, wiSeq, wiEn, wiZip, wLc, wYes, wApp, wPop, wgIx,
  gIsi_iff, gLen_iff, gTuple_iff, gList_iff, gAll_iff, gI_iff, gAbs_iff, gMM_iff, gInt_iff, gEq_int, gEq_str, gEq_emp, listOf, gAdd_int, gAdd_tup, gAdd_lst, gAdd_lstN, gAdd_Nlst, gAdd_new, gMul_int, gMul_tup, gIsN_iff, gSl_tup, gSl_lst, gSl_new, sqL, sqT, sqN, ssL, ssT, ssO, dOf_val, dOf_new, svOf_val, svOf_new, kI_non, kI_bl, kI_int, kI_str, kI_tup, kI_lst, kI_dct, kI_dc0, kB_non, kB_bl, kB_int, kB_str, kB_tup, kB_lst, kB_dct, kB_dc0, kT_non, kT_bl, kT_int, kT_str, kT_tup, kT_lst, kT_dct, kT_dc0, kS_non, kS_bl, kS_int, kS_str, kS_tup, kS_lst, kS_dct, kS_dc0, wipeD,
  List.getElem?_cons_zero, List.getElem?_cons_succ, List.getElem?_nil, List.set_cons_zero, List.set_cons_succ, List.map_cons, List.map_nil, List.length_cons, List.length_nil, RV.val.injEq, RV.new.injEq, D.bl.injEq, D.int.injEq, D.str.injEq, D.tup.injEq, D.lst.injEq, SV.val.injEq, SV.own.injEq, Option.some.injEq, exists_eq_left', exists_eq_left, exists_and_left, exists_eq_right, true_and, and_true, Bool.not_true, Bool.not_false, Bool.false_eq_true, if_true, if_false, reduceIte, ite_self, Bool.true_xor, Bool.false_xor, Bool.not_eq_true', decide_eq_true_eq, List.cons.injEq, isNon, exists_eq, exists_eq', at0, at1, mvD_len, tlD_len, rowD_def, wDNew, wDGet, wDIn, wDPut, wDOne, wAugI, wTry, wRaise, wCallX, wInG, wExt, wCallK, wDc0, pick, List.filterMap_cons, List.filterMap_nil, isOwnD, SV.ownD.injEq, svOf_newD, key_pair])
open Ly.K12
theorem more_books : [D.tup [.str (Str.ofString "slide")], .tup [.str (Str.ofString "put left"), .str (Str.ofString "put right"), .str (Str.ofString "take left"), .str (Str.ofString "take right")], .tup [.str (Str.ofString "put right"), .str (Str.ofString "take left"), .str (Str.ofString "take right")]] = [[("slide" : Str)], ["put left", "put right", "take left", "take right"], ["put right", "take left", "take right"]].map bookD := rfl
theorem h_law : ∀ ds n Q, ds.length = 1 → c_law ds n Q → wb_law { nx := fun _ n' => Q .non n', rt := Q } (startD ["script", "turn", "pot", "books", "row", "size", "deeds", "some", "book", "many"] ds) n := by
  rintro ds n Q - ⟨ns, rfl, hns, rfl, hq⟩
  show wb_law _ [.val _, .un, .un, .un, .un, .un, .un, .un, .un, .un] 0
  unfold wb_law; walk_at "w"
  refine ⟨ns, rfl, hns, fun a => ?_⟩
  refine ⟨rfl, ?_⟩
  refine ⟨_, _, ⟨rfl, rfl⟩, ?_⟩
  unfold wb_law_8; walk_at "w"
  refine ⟨⟨by decide, by decide⟩, ?_⟩
  refine loop_inv (fun i ρ n' => n' ≤ 2000 * i ∧ ∃ x1 x4 x5 x6 x7 x8 x9, ρ = [.val (.scr ns), x1, .val (.bag a), .val (.lst (theBooks.map bookD)), x4, x5, x6, x7, x8, x9]) ?_ ⟨by omega, _, _, _, _, _, _, _, rfl⟩ ?_
  · rintro i x ρ n' hx ⟨hn, x1, x4, x5, x6, x7, x8, x9, rfl⟩ NX hNX
    have hi : i < 4 := (List.getElem?_eq_some_iff.mp hx).1
    walk_at "w"
    unfold wb_law_7; walk_at "w"
    refine ⟨by decide, rfl, rfl, ?_⟩
    walk_at "w"
    refine ⟨by decide, by decide, ?_⟩
    refine ⟨a, _, _, rfl, rfl, by decide, by decide, by omega, ?_⟩
    rintro d n1 hd c1 c2
    have hbk : ∃ b ∈ theBooks, d = bookD b := by
      rcases List.mem_append.mp hd with h | h
      · obtain ⟨b, hb, rfl⟩ := List.mem_map.mp h
        exact ⟨b, hb, rfl⟩
      · have h : d ∈ [[("slide" : Str)], ["put left", "put right", "take left", "take right"], ["put right", "take left", "take right"]].map bookD := h
        obtain ⟨b, hb, rfl⟩ := List.mem_map.mp h
        refine ⟨b, ?_, rfl⟩
        have all : ∀ b ∈ [[("slide" : Str)], ["put left", "put right", "take left", "take right"], ["put right", "take left", "take right"]], b ∈ theBooks := by decide +kernel
        exact all b hb
    obtain ⟨b, hb, rfl⟩ := hbk
    clear hd
    refine ⟨a, 3, rfl, by decide, by decide, by omega, ?_⟩
    rintro _ n2 ⟨k, rfl, k0, k3⟩ c3 c4
    walk_at "w"
    obtain ⟨m, hm⟩ : ∃ m : Nat, 1 + k = (m : Int) := ⟨(1 + k).toNat, by omega⟩
    have m1 : 1 ≤ m := by omega
    have m3 : m ≤ 3 := by omega
    rw [hm]
    refine ⟨_, _, ⟨rfl, rfl⟩, ?_⟩
    unfold wb_law_6; walk_at "w"
    refine ⟨by decide, a, _, _, rfl, rfl, by decide, by decide, by omega, ?_⟩
    rintro d n3 hd c5 c6
    obtain ⟨lim, rfl, hlim⟩ : ∃ lim : Nat, d = .int lim ∧ lim ≤ 40 := by
      simp only [List.mem_cons, List.not_mem_nil, or_false] at hd
      rcases hd with rfl | rfl | rfl
      · exact ⟨3, rfl, by decide⟩
      · exact ⟨8, rfl, by decide⟩
      · exact ⟨40, rfl, by decide⟩
    clear hd
    refine ⟨a, m, lim, rfl, m1, m3, hlim, by omega, ?_⟩
    rintro _ n4 ⟨r, rfl, hrl, hrx⟩ c7 c8
    unfold wb_law_5; walk_at "w"
    refine ⟨by decide, a, _, _, rfl, rfl, by decide, by decide, by omega, ?_⟩
    rintro d n5 hd c9 c10
    obtain ⟨sz0, rfl, hsz⟩ : ∃ sz0 : Nat, d = .int sz0 ∧ sz0 ≤ 60 := by
      simp only [List.mem_cons, List.not_mem_nil, or_false] at hd
      rcases hd with rfl | rfl | rfl | rfl
      · exact ⟨6, rfl, by decide⟩
      · exact ⟨20, rfl, by decide⟩
      · exact ⟨20, rfl, by decide⟩
      · exact ⟨60, rfl, by decide⟩
    clear hd
    unfold wb_law_4; walk_at "w"
    refine ⟨a, b, m, sz0, r, rfl, hb, m1, m3, by omega, hrl, by omega, ?_⟩
    rintro _ n6 ⟨l, rfl, hl, ok⟩ c11 c12
    have two : ∀ l : List D, okRun b m r l → l.length ≤ 60 → (b = [("slide" : Str)] → l.length ≤ r.length) → wb_law_2 { nx := NX, rt := Q, bk := fun ρ1 n1 => Q (D.bl true) n1, ct := NX } [.val (.scr ns), .val x, .val (.bag a), .val (.lst (theBooks.map bookD)), .val (rowD r), .val (.int sz0), .val (.tup l), x7, .val (bookD b), .val (.int m)] n6 := by
      intro l ok hl hsl
      unfold wb_law_2; walk_at "w"
      refine ⟨a, (l.length : Int) + 1, rfl, by omega, by omega, by omega, ?_⟩
      rintro _ n7 ⟨k, rfl, k0, k1⟩ c13 c14
      obtain ⟨j, rfl⟩ : ∃ j : Nat, k = (j : Int) := ⟨k.toNat, by omega⟩
      refine ⟨_, rfl, by decide, ?_⟩
      rw [cut_to]
      have all : ∀ d ∈ [D.tup l, .tup (l.take j)], ∃ l2, d = .tup l2 ∧ okRun b m r l2 ∧ l2.length ≤ 60 ∧ (b = [("slide" : Str)] → l2.length ≤ r.length) := by
        intro d hd
        simp only [List.mem_cons, List.not_mem_nil, or_false] at hd
        rcases hd with rfl | rfl
        · exact ⟨l, rfl, ok, hl, hsl⟩
        · have := List.length_take_le' j l
          exact ⟨_, rfl, ok_take ok, by omega, fun h => Nat.le_trans this (hsl h)⟩
      have two2 : [D.tup l, .tup (l.take j)].length = 2 := rfl
      generalize [D.tup l, .tup (l.take j)] = so at all two2 ⊢
      refine loop_inv (fun i2 ρ n' => n' ≤ n7 + 500 * i2 ∧ ∃ x7, ρ = [.val (.scr ns), .val x, .val (.bag a), .val (.lst (theBooks.map bookD)), .val (rowD r), .val (.int sz0), .val (.tup l), x7, .val (bookD b), .val (.int m)]) ?_ ⟨by omega, _, rfl⟩ ?_
      · rintro i2 d ρ n8 hd ⟨hn8, y7, rfl⟩ NX2 hNX2
        have hi2 : i2 < 2 := by
          have := (List.getElem?_eq_some_iff.mp hd).1
          omega
        obtain ⟨l2, rfl, ok2, hl2, hsl2⟩ := all d (List.mem_of_getElem? hd)
        walk_at "w"
        unfold wb_law_1; walk_at "w"
        refine ⟨a, b, m, r, l2, rfl, hb, m1, m3, hl2, hrl, hrx, ok2, hsl2, by omega, ?_⟩
        rintro _ n9 rfl c15 c16
        walk_at "w"
        exact hNX2 _ _ ⟨by omega, _, rfl⟩
      · rintro ρ n8 ⟨hn8, y7, rfl⟩
        exact hNX _ _ ⟨by omega, _, _, _, _, _, _, _, rfl⟩
    unfold wb_law_3; walk_at "w"
    refine ⟨by decide, gEq_slide hb ?_⟩
    by_cases hbs : b = [("slide" : Str)]
    · refine ⟨true, by rw [decide_eq_true hbs], ?_⟩
      rw [if_pos rfl, List.length_map, cut_to]
      refine two _ (ok_take ok) (Nat.le_trans (List.length_take_le' _ _) (by omega)) fun _ => List.length_take_le _ _
    · refine ⟨false, by rw [decide_eq_false hbs], ?_⟩
      rw [if_neg (by decide)]
      exact two l ok (by omega) fun h => absurd h hbs
  · rintro ρ n' ⟨_, x1, x4, x5, x6, x7, x8, x9, rfl⟩
    walk_at "w"
    exact hq _
end Ly.K14

namespace Ly.K14
open PySem PySem.Spec PyProof.Rows L2 Ly.K12
section
variable {P : Program} {w : World} {K : PySem.W.Frag} {mg : Str → Option Value} {base : Heap}
theorem okk_is_integer (T : Txt K mg) : ok_is_integer P w base T := def_ok T.F_is_integer sc_is_integer rfl (fun cdv A outer s H E B hr => dss_is_integer T  hr) h_is_integer
theorem okk_is_whole (T : Txt K mg) : ok_is_whole P w base T := def_ok T.F_is_whole sc_is_whole rfl (fun cdv A outer s H E B hr => dss_is_whole T (okk_is_integer T) hr) h_is_whole
theorem okk_deeds_of (T : Txt K mg) : ok_deeds_of P w base T := def_ok T.F_deeds_of sc_deeds_of rfl (fun cdv A outer s H E B hr => dss_deeds_of T  hr) h_deeds_of
theorem okk_is_built_as_deed (T : Txt K mg) : ok_is_built_as_deed P w base T := def_ok T.F_is_built_as_deed sc_is_built_as_deed rfl (fun cdv A outer s H E B hr => dss_is_built_as_deed T  hr) h_is_built_as_deed
theorem okk_deed_error (T : Txt K mg) : ok_deed_error P w base T := def_ok T.F_deed_error sc_deed_error rfl (fun cdv A outer s H E B hr => dss_deed_error T (okk_is_built_as_deed T) (okk_is_whole T) hr) h_deed_error
theorem okk_open_deeds (T : Txt K mg) : ok_open_deeds P w base T := def_ok T.F_open_deeds sc_open_deeds rfl (fun cdv A outer s H E B hr => dss_open_deeds T (okk_deeds_of T) (okk_deed_error T) hr) h_open_deeds
theorem okk_behind (T : Txt K mg) : ok_behind P w base T := def_ok T.F_behind sc_behind rfl (fun cdv A outer s H E B hr => dss_behind T  hr) h_behind
theorem okk_led (T : Txt K mg) : ok_led P w base T := def_ok T.F_led sc_led rfl (fun cdv A outer s H E B hr => dss_led T (okk_deed_error T) (okk_behind T) hr) h_led
theorem okk_law_pot (T : Txt K mg) : ok_law_pot P w base T := ok_pot T
theorem okk_law_draw (T : Txt K mg) : ok_law_draw P w base T := ok_draw T
theorem okk_law_pick (T : Txt K mg) : ok_law_pick P w base T := def_ok T.F_law_pick sc_law_pick rfl (fun cdv A outer s H E B hr => dss_law_pick T (okk_law_draw T) hr) h_law_pick
theorem okk_law_letters (T : Txt K mg) : ok_law_letters P w base T := def_ok T.F_law_letters sc_law_letters rfl (fun cdv A outer s H E B hr => dss_law_letters T (okk_law_draw T) hr) h_law_letters
theorem okk_law_row (T : Txt K mg) : ok_law_row P w base T := def_ok T.F_law_row sc_law_row rfl (fun cdv A outer s H E B hr => dss_law_row T (okk_law_letters T) (okk_law_draw T) hr) h_law_row
theorem okk_law_words (T : Txt K mg) : ok_law_words P w base T := def_ok T.F_law_words sc_law_words rfl (fun cdv A outer s H E B hr => dss_law_words T  hr) h_law_words
theorem okk_law_books (T : Txt K mg) : ok_law_books P w base T := def_ok T.F_law_books sc_law_books rfl (fun cdv A outer s H E B hr => dss_law_books T (okk_law_words T) hr) h_law_books
theorem okk_law_deeds (T : Txt K mg) : ok_law_deeds P w base T := def_ok T.F_law_deeds sc_law_deeds rfl (fun cdv A outer s H E B hr => dss_law_deeds T  hr) h_law_deeds
theorem okk_law_open (T : Txt K mg) : ok_law_open P w base T := def_ok T.F_law_open sc_law_open rfl (fun cdv A outer s H E B hr => dss_law_open T (okk_law_deeds T) hr) h_law_open
theorem okk_law_behind (T : Txt K mg) : ok_law_behind P w base T := def_ok T.F_law_behind sc_law_behind rfl (fun cdv A outer s H E B hr => dss_law_behind T  hr) h_law_behind
theorem okk_law_walk (T : Txt K mg) : ok_law_walk P w base T := def_ok T.F_law_walk sc_law_walk rfl (fun cdv A outer s H E B hr => dss_law_walk T (okk_law_open T) (okk_law_pick T) (okk_law_draw T) (okk_law_behind T) hr) h_law_walk
theorem okk_law_record (T : Txt K mg) : ok_law_record P w base T := def_ok T.F_law_record sc_law_record rfl (fun cdv A outer s H E B hr => dss_law_record T  hr) h_law_record
theorem okk_law_relettered (T : Txt K mg) : ok_law_relettered P w base T := def_ok T.F_law_relettered sc_law_relettered rfl (fun cdv A outer s H E B hr => dss_law_relettered T (okk_law_draw T) hr) h_law_relettered
theorem okk_law_slid (T : Txt K mg) : ok_law_slid P w base T := def_ok T.F_law_slid sc_law_slid rfl (fun cdv A outer s H E B hr => dss_law_slid T  hr) h_law_slid
theorem okk_law_is_left (T : Txt K mg) : ok_law_is_left P w base T := def_okG T.F_law_is_left sc_law_is_left rfl (fun cdv A outer s H E B hg hr => dss_law_is_left T (okk_led T) (okk_law_slid T) (okk_law_record T) (okk_law_relettered T) (okk_law_letters T) (okk_open_deeds T) hr hg) h_law_is_left
theorem okk_law (T : Txt K mg) : FnG P w K mg base 6 T.a_law T.d_law p_law (spC K 1 c_law) := def_okG T.F_law sc_law rfl (fun cdv A outer s H E B hg hr => dss_law T (okk_law_books T) (okk_law_pot T) (okk_law_draw T) (okk_law_pick T) (okk_law_words T) (okk_law_row T) (okk_law_walk T) (okk_law_is_left T) hr hg) h_law
def txt {h : Heap} (kin : K.In h) (G : h.Ns mainGlobals mg)
    (b_abs : PySem.W.nsIn K mainGlobals "abs" = some none)
    (b_bool : PySem.W.nsIn K mainGlobals "bool" = some none)
    (b_enumerate : PySem.W.nsIn K mainGlobals "enumerate" = some none)
    (b_int : PySem.W.nsIn K mainGlobals "int" = some none)
    (b_isinstance : PySem.W.nsIn K mainGlobals "isinstance" = some none)
    (b_len : PySem.W.nsIn K mainGlobals "len" = some none)
    (b_range : PySem.W.nsIn K mainGlobals "range" = some none)
    (b_repr : PySem.W.nsIn K mainGlobals "repr" = some none)
    (b_sorted : PySem.W.nsIn K mainGlobals "sorted" = some none)
    (b_tuple : PySem.W.nsIn K mainGlobals "tuple" = some none)
    {t_MAX_DEEDS : Tok} (c_MAX_DEEDS : PySem.W.nsIn K mainGlobals "MAX_DEEDS" = some (some (.int 200 t_MAX_DEEDS)))
    (c_WORDS : GTup K mg "WORDS" gt_WORDS)
    (c_PUTTING : GTup K mg "PUTTING" gt_PUTTING)
    (c_TAKING : GTup K mg "TAKING" gt_TAKING)
    (D_is_integer : HD K mg "is_integer" s_is_integer p_is_integer)
    (D_is_whole : HD K mg "is_whole" s_is_whole p_is_whole)
    (D_deeds_of : HD K mg "deeds_of" s_deeds_of p_deeds_of)
    (D_deed_error : HD K mg "deed_error" s_deed_error p_deed_error)
    (D_is_built_as_deed : HD K mg "_is_built_as_deed" s_is_built_as_deed p_is_built_as_deed)
    (D_open_deeds : HD K mg "open_deeds" s_open_deeds p_open_deeds)
    (D_behind : HD K mg "_behind" s_behind p_behind)
    (D_led : HD K mg "led" s_led p_led)
    (D_law_pot : HD K mg "_law_pot" s_law_pot p_law_pot)
    (D_law_draw : HD K mg "_law_draw" s_law_draw p_law_draw)
    (D_law_pick : HD K mg "_law_pick" s_law_pick p_law_pick)
    (D_law_letters : HD K mg "_law_letters" s_law_letters p_law_letters)
    (D_law_row : HD K mg "_law_row" s_law_row p_law_row)
    (D_law_words : HD K mg "_law_words" s_law_words p_law_words)
    (D_law_books : HD K mg "_law_books" s_law_books p_law_books)
    (D_law_deeds : HD K mg "_law_deeds" s_law_deeds p_law_deeds)
    (D_law_open : HD K mg "_law_open" s_law_open p_law_open)
    (D_law_behind : HD K mg "_law_behind" s_law_behind p_law_behind)
    (D_law_walk : HD K mg "_law_walk" s_law_walk p_law_walk)
    (D_law_record : HD K mg "_law_record" s_law_record p_law_record)
    (D_law_relettered : HD K mg "_law_relettered" s_law_relettered p_law_relettered)
    (D_law_slid : HD K mg "_law_slid" s_law_slid p_law_slid)
    (D_law_is_left : HD K mg "_law_is_left" s_law_is_left p_law_is_left)
    (D_law : HD K mg "law" s_law p_law)
    : Txt K mg where
  n_abs := PySem.W.mg_none_of kin G b_abs
  n_bool := PySem.W.mg_none_of kin G b_bool
  n_enumerate := PySem.W.mg_none_of kin G b_enumerate
  n_int := PySem.W.mg_none_of kin G b_int
  n_isinstance := PySem.W.mg_none_of kin G b_isinstance
  n_len := PySem.W.mg_none_of kin G b_len
  n_range := PySem.W.mg_none_of kin G b_range
  n_repr := PySem.W.mg_none_of kin G b_repr
  n_sorted := PySem.W.mg_none_of kin G b_sorted
  n_tuple := PySem.W.mg_none_of kin G b_tuple
  t_MAX_DEEDS := _
  c_MAX_DEEDS := PySem.W.mg_of kin G c_MAX_DEEDS
  c_WORDS := c_WORDS
  c_PUTTING := c_PUTTING
  c_TAKING := c_TAKING
  a_is_integer := D_is_integer.f
  d_is_integer := D_is_integer.fd
  F_is_integer := D_is_integer.F
  b_is_integer := D_is_integer.b
  g_is_integer := D_is_integer.g
  a_is_whole := D_is_whole.f
  d_is_whole := D_is_whole.fd
  F_is_whole := D_is_whole.F
  b_is_whole := D_is_whole.b
  g_is_whole := D_is_whole.g
  a_deeds_of := D_deeds_of.f
  d_deeds_of := D_deeds_of.fd
  F_deeds_of := D_deeds_of.F
  b_deeds_of := D_deeds_of.b
  g_deeds_of := D_deeds_of.g
  a_deed_error := D_deed_error.f
  d_deed_error := D_deed_error.fd
  F_deed_error := D_deed_error.F
  b_deed_error := D_deed_error.b
  g_deed_error := D_deed_error.g
  a_is_built_as_deed := D_is_built_as_deed.f
  d_is_built_as_deed := D_is_built_as_deed.fd
  F_is_built_as_deed := D_is_built_as_deed.F
  b_is_built_as_deed := D_is_built_as_deed.b
  g_is_built_as_deed := D_is_built_as_deed.g
  a_open_deeds := D_open_deeds.f
  d_open_deeds := D_open_deeds.fd
  F_open_deeds := D_open_deeds.F
  b_open_deeds := D_open_deeds.b
  g_open_deeds := D_open_deeds.g
  a_behind := D_behind.f
  d_behind := D_behind.fd
  F_behind := D_behind.F
  b_behind := D_behind.b
  g_behind := D_behind.g
  a_led := D_led.f
  d_led := D_led.fd
  F_led := D_led.F
  b_led := D_led.b
  g_led := D_led.g
  a_law_pot := D_law_pot.f
  d_law_pot := D_law_pot.fd
  F_law_pot := D_law_pot.F
  b_law_pot := D_law_pot.b
  g_law_pot := D_law_pot.g
  a_law_draw := D_law_draw.f
  d_law_draw := D_law_draw.fd
  F_law_draw := D_law_draw.F
  b_law_draw := D_law_draw.b
  g_law_draw := D_law_draw.g
  a_law_pick := D_law_pick.f
  d_law_pick := D_law_pick.fd
  F_law_pick := D_law_pick.F
  b_law_pick := D_law_pick.b
  g_law_pick := D_law_pick.g
  a_law_letters := D_law_letters.f
  d_law_letters := D_law_letters.fd
  F_law_letters := D_law_letters.F
  b_law_letters := D_law_letters.b
  g_law_letters := D_law_letters.g
  a_law_row := D_law_row.f
  d_law_row := D_law_row.fd
  F_law_row := D_law_row.F
  b_law_row := D_law_row.b
  g_law_row := D_law_row.g
  a_law_words := D_law_words.f
  d_law_words := D_law_words.fd
  F_law_words := D_law_words.F
  b_law_words := D_law_words.b
  g_law_words := D_law_words.g
  a_law_books := D_law_books.f
  d_law_books := D_law_books.fd
  F_law_books := D_law_books.F
  b_law_books := D_law_books.b
  g_law_books := D_law_books.g
  a_law_deeds := D_law_deeds.f
  d_law_deeds := D_law_deeds.fd
  F_law_deeds := D_law_deeds.F
  b_law_deeds := D_law_deeds.b
  g_law_deeds := D_law_deeds.g
  a_law_open := D_law_open.f
  d_law_open := D_law_open.fd
  F_law_open := D_law_open.F
  b_law_open := D_law_open.b
  g_law_open := D_law_open.g
  a_law_behind := D_law_behind.f
  d_law_behind := D_law_behind.fd
  F_law_behind := D_law_behind.F
  b_law_behind := D_law_behind.b
  g_law_behind := D_law_behind.g
  a_law_walk := D_law_walk.f
  d_law_walk := D_law_walk.fd
  F_law_walk := D_law_walk.F
  b_law_walk := D_law_walk.b
  g_law_walk := D_law_walk.g
  a_law_record := D_law_record.f
  d_law_record := D_law_record.fd
  F_law_record := D_law_record.F
  b_law_record := D_law_record.b
  g_law_record := D_law_record.g
  a_law_relettered := D_law_relettered.f
  d_law_relettered := D_law_relettered.fd
  F_law_relettered := D_law_relettered.F
  b_law_relettered := D_law_relettered.b
  g_law_relettered := D_law_relettered.g
  a_law_slid := D_law_slid.f
  d_law_slid := D_law_slid.fd
  F_law_slid := D_law_slid.F
  b_law_slid := D_law_slid.b
  g_law_slid := D_law_slid.g
  a_law_is_left := D_law_is_left.f
  d_law_is_left := D_law_is_left.fd
  F_law_is_left := D_law_is_left.F
  b_law_is_left := D_law_is_left.b
  g_law_is_left := D_law_is_left.g
  a_law := D_law.f
  d_law := D_law.fd
  F_law := D_law.F
  b_law := D_law.b
  g_law := D_law.g
theorem all_of {fa : Addr} (T : Txt K mg) (hfa : mg "law" = some (.ref fa)) : ∃ fd : FuncData, Binds K fd ["script"] [] ∧ ∀ base : Heap, K.In base → base.Ns mainGlobals mg → FnG P w K mg base 6 fa fd ["script"] (spC K 1 c_law) := by
  cases hfa.symm.trans T.g_law
  exact ⟨T.d_law, T.b_law, fun base _ _ => okk_law T⟩
end
end Ly.K14
open PySem PySem.W PyProof.Rows
set_option maxHeartbeats 0 in
theorem PySem.Challenge.cw_endkeepers_k14_whole_what_is_left_of_a_r_holds : PySem.Challenge.rw_endkeepers_k14_whole_what_is_left_of_a_r.Holds := by
  w_on; o_law; k_head; (case hw => w_witness2)
  k_fill
  refine Ly.walkG (l := PySem.Challenge.rw_endkeepers_k14_whole_what_is_left_of_a_r) (n := 63) (k := 6) (x := "script") (sp := fun w => Ly.spC _ 1 Ly.c_law) rfl (by decide) rfl ⟨rfl, by decide, by decide⟩ (fun w h Y => PySem.W.kIn_of Y) ?F (fun _ _ a ns hl hO hS => Ly.spLaw (fun Q hQ => ⟨ns, rfl, hl, rfl, hQ⟩) hO hS)
  case F =>
    intro w mg fa h kin G hmg
    refine' Ly.K14.all_of (Ly.K14.txt kin G ?b_abs ?b_bool ?b_enumerate ?b_int ?b_isinstance ?b_len ?b_range ?b_repr ?b_sorted ?b_tuple ?c_MAX_DEEDS
      (Ly.gtup_of kin G ?a_WORDS ?l_WORDS ?v_WORDS ?z_WORDS ?o_WORDS)
      (Ly.gtup_of kin G ?a_PUTTING ?l_PUTTING ?v_PUTTING ?z_PUTTING ?o_PUTTING)
      (Ly.gtup_of kin G ?a_TAKING ?l_TAKING ?v_TAKING ?z_TAKING ?o_TAKING)
      (Ly.headOf (fun _ _ _ _ _ _ us hl => match us, hl with | [_], _ => rfl) kin G ?a_is_integer ?l_is_integer ?o_is_integer ?k_is_integer)
      (Ly.headOf (fun _ _ _ _ _ _ us hl => match us, hl with | [_, _, _], _ => rfl) kin G ?a_is_whole ?l_is_whole ?o_is_whole ?k_is_whole)
      (Ly.headOf (fun _ _ _ _ _ _ us hl => match us, hl with | [_, _], _ => rfl) kin G ?a_deeds_of ?l_deeds_of ?o_deeds_of ?k_deeds_of)
      (Ly.headOf (fun _ _ _ _ _ _ us hl => match us, hl with | [_, _, _, _], _ => rfl) kin G ?a_deed_error ?l_deed_error ?o_deed_error ?k_deed_error)
      (Ly.headOf (fun _ _ _ _ _ _ us hl => match us, hl with | [_], _ => rfl) kin G ?a_is_built_as_deed ?l_is_built_as_deed ?o_is_built_as_deed ?k_is_built_as_deed)
      (Ly.headOf (fun _ _ _ _ _ _ us hl => match us, hl with | [_, _, _], _ => rfl) kin G ?a_open_deeds ?l_open_deeds ?o_open_deeds ?k_open_deeds)
      (Ly.headOf (fun _ _ _ _ _ _ us hl => match us, hl with | [_, _], _ => rfl) kin G ?a_behind ?l_behind ?o_behind ?k_behind)
      (Ly.headOf (fun _ _ _ _ _ _ us hl => match us, hl with | [_, _, _, _], _ => rfl) kin G ?a_led ?l_led ?o_led ?k_led)
      (Ly.headOf (fun _ _ _ _ _ _ us hl => match us, hl with | [_], _ => rfl) kin G ?a_law_pot ?l_law_pot ?o_law_pot ?k_law_pot)
      (Ly.headOf (fun _ _ _ _ _ _ us hl => match us, hl with | [_, _], _ => rfl) kin G ?a_law_draw ?l_law_draw ?o_law_draw ?k_law_draw)
      (Ly.headOf (fun _ _ _ _ _ _ us hl => match us, hl with | [_, _], _ => rfl) kin G ?a_law_pick ?l_law_pick ?o_law_pick ?k_law_pick)
      (Ly.headOf (fun _ _ _ _ _ _ us hl => match us, hl with | [_, _, _], _ => rfl) kin G ?a_law_letters ?l_law_letters ?o_law_letters ?k_law_letters)
      (Ly.headOf (fun _ _ _ _ _ _ us hl => match us, hl with | [_, _, _], _ => rfl) kin G ?a_law_row ?l_law_row ?o_law_row ?k_law_row)
      (Ly.headOf (fun _ _ _ _ _ _ us hl => match us, hl with | [], _ => rfl) kin G ?a_law_words ?l_law_words ?o_law_words ?k_law_words)
      (Ly.headOf (fun _ _ _ _ _ _ us hl => match us, hl with | [], _ => rfl) kin G ?a_law_books ?l_law_books ?o_law_books ?k_law_books)
      (Ly.headOf (fun _ _ _ _ _ _ us hl => match us, hl with | [_, _], _ => rfl) kin G ?a_law_deeds ?l_law_deeds ?o_law_deeds ?k_law_deeds)
      (Ly.headOf (fun _ _ _ _ _ _ us hl => match us, hl with | [_, _, _], _ => rfl) kin G ?a_law_open ?l_law_open ?o_law_open ?k_law_open)
      (Ly.headOf (fun _ _ _ _ _ _ us hl => match us, hl with | [_, _], _ => rfl) kin G ?a_law_behind ?l_law_behind ?o_law_behind ?k_law_behind)
      (Ly.headOf (fun _ _ _ _ _ _ us hl => match us, hl with | [_, _, _, _, _], _ => rfl) kin G ?a_law_walk ?l_law_walk ?o_law_walk ?k_law_walk)
      (Ly.headOf (fun _ _ _ _ _ _ us hl => match us, hl with | [_, _], _ => rfl) kin G ?a_law_record ?l_law_record ?o_law_record ?k_law_record)
      (Ly.headOf (fun _ _ _ _ _ _ us hl => match us, hl with | [_, _, _], _ => rfl) kin G ?a_law_relettered ?l_law_relettered ?o_law_relettered ?k_law_relettered)
      (Ly.headOf (fun _ _ _ _ _ _ us hl => match us, hl with | [_, _], _ => rfl) kin G ?a_law_slid ?l_law_slid ?o_law_slid ?k_law_slid)
      (Ly.headOf (fun _ _ _ _ _ _ us hl => match us, hl with | [_, _, _, _, _], _ => rfl) kin G ?a_law_is_left ?l_law_is_left ?o_law_is_left ?k_law_is_left)
      (Ly.headOf (fun _ _ _ _ _ _ us hl => match us, hl with | [_], _ => rfl) kin G ?a_law ?l_law ?o_law ?k_law)
      ) hmg
    case b_abs => k_is
    case b_bool => k_is
    case b_enumerate => k_is
    case b_int => k_is
    case b_isinstance => k_is
    case b_len => k_is
    case b_range => k_is
    case b_repr => k_is
    case b_sorted => k_is
    case b_tuple => k_is
    case c_MAX_DEEDS => k_is
    (case a_WORDS => k_is); (case l_WORDS => k_is); (case v_WORDS => repeat (first | exact .nil | refine .cons ⟨_, rfl⟩ ?_)); (case z_WORDS => decide); (case o_WORDS => decide +kernel)
    (case a_PUTTING => k_is); (case l_PUTTING => k_is); (case v_PUTTING => repeat (first | exact .nil | refine .cons ⟨_, rfl⟩ ?_)); (case z_PUTTING => decide); (case o_PUTTING => decide +kernel)
    (case a_TAKING => k_is); (case l_TAKING => k_is); (case v_TAKING => repeat (first | exact .nil | refine .cons ⟨_, rfl⟩ ?_)); (case z_TAKING => decide); (case o_TAKING => decide +kernel)
    (case a_is_integer => k_is); (case l_is_integer => k_is); (case o_is_integer => k_is); (case k_is_integer => k_is)
    (case a_is_whole => k_is); (case l_is_whole => k_is); (case o_is_whole => k_is); (case k_is_whole => k_is)
    (case a_deeds_of => k_is); (case l_deeds_of => k_is); (case o_deeds_of => k_is); (case k_deeds_of => k_is)
    (case a_deed_error => k_is); (case l_deed_error => k_is); (case o_deed_error => k_is); (case k_deed_error => k_is)
    (case a_is_built_as_deed => k_is); (case l_is_built_as_deed => k_is); (case o_is_built_as_deed => k_is); (case k_is_built_as_deed => k_is)
    (case a_open_deeds => k_is); (case l_open_deeds => k_is); (case o_open_deeds => k_is); (case k_open_deeds => k_is)
    (case a_behind => k_is); (case l_behind => k_is); (case o_behind => k_is); (case k_behind => k_is)
    (case a_led => k_is); (case l_led => k_is); (case o_led => k_is); (case k_led => k_is)
    (case a_law_pot => k_is); (case l_law_pot => k_is); (case o_law_pot => k_is); (case k_law_pot => k_is)
    (case a_law_draw => k_is); (case l_law_draw => k_is); (case o_law_draw => k_is); (case k_law_draw => k_is)
    (case a_law_pick => k_is); (case l_law_pick => k_is); (case o_law_pick => k_is); (case k_law_pick => k_is)
    (case a_law_letters => k_is); (case l_law_letters => k_is); (case o_law_letters => k_is); (case k_law_letters => k_is)
    (case a_law_row => k_is); (case l_law_row => k_is); (case o_law_row => k_is); (case k_law_row => k_is)
    (case a_law_words => k_is); (case l_law_words => k_is); (case o_law_words => k_is); (case k_law_words => k_is)
    (case a_law_books => k_is); (case l_law_books => k_is); (case o_law_books => k_is); (case k_law_books => k_is)
    (case a_law_deeds => k_is); (case l_law_deeds => k_is); (case o_law_deeds => k_is); (case k_law_deeds => k_is)
    (case a_law_open => k_is); (case l_law_open => k_is); (case o_law_open => k_is); (case k_law_open => k_is)
    (case a_law_behind => k_is); (case l_law_behind => k_is); (case o_law_behind => k_is); (case k_law_behind => k_is)
    (case a_law_walk => k_is); (case l_law_walk => k_is); (case o_law_walk => k_is); (case k_law_walk => k_is)
    (case a_law_record => k_is); (case l_law_record => k_is); (case o_law_record => k_is); (case k_law_record => k_is)
    (case a_law_relettered => k_is); (case l_law_relettered => k_is); (case o_law_relettered => k_is); (case k_law_relettered => k_is)
    (case a_law_slid => k_is); (case l_law_slid => k_is); (case o_law_slid => k_is); (case k_law_slid => k_is)
    (case a_law_is_left => k_is); (case l_law_is_left => k_is); (case o_law_is_left => k_is); (case k_law_is_left => k_is)
    (case a_law => k_is); (case l_law => k_is); (case o_law => k_is); (case k_law => k_is)

