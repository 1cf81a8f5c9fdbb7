import PyProof.Rows.All
import Wide.All
import OpenK.AllK
import Wide.FinOn
import HandS.ForMost
import HandS.IsInst
import HandS.AnyAll
import HandS.EndTab
import HandS.Walk
import HandS.TryOnly
import HandS.TupLe
import HandS.TupAny
import HandS.GenList
import HandS.Comp
import PyProof.TupleOfGen
import HandS.More
import HandS.Zip
import HandS.Wide
import KE.GoesMore
import PySem.Challenge.RW_wipeways_k43_what_is_a_code
set_option Elab.async false
set_option linter.all false
set_option maxRecDepth 100000
set_option maxHeartbeats 2000000
namespace Kk
open PySem PySem.Spec PyProof.Rows L2

/-- the element of a generator over signs, where the module's names are to be read -/
def EltB (X : Cx) (sc : Scope) (x : Str) (e : Expr) (pb : Nat → Bool) : Prop :=
  ∀ (ge : Env) (B : Around) (F : Value → Shared → Prop) (c : Nat) (t : Tok) (z : Shared) (m : Str → Option Value),
    ge.scope = sc → ge.globals = mainGlobals → (∀ b o, X.base.get? b = some o → z.heap.get? b = some o) →
    z.heap.Ns ge.locals m → m x = some (.str ⟨#[c]⟩ t) →
    wpAny (model X.prog X.w) B (eval e ge) (fun y z' => y = .bool (pb c) ∧ Keeps z z') F z

section
variable {X : Cx} {pins : List (Addr × Obj)} {σ : L2.St} {H : Hp} {s : Shared}

theorem genB {c P : Addr} {e it : Expr} {x : Str} {px gp : Pos} {sc : Scope} {pb : Nat → Bool} {te : TE} {k : Nat} {G : Value → Shared → Prop} {R : Str → Hp → Prop}
    (room : Room k X.A) (tab : GxR.TabB X.base X.mg c P) (code : X.env.code = .ref c) (gs : GxR.GenS X.env sc x) (pit : PE X it te) (pel : EltB X sc x e pb)
    (fold : ∀ v, genFold it X.env v = pure v) (I : Inv X pins σ H s) (want : te σ H fun v H1 => ∃ a : Str, v = .str a ∧ GxR.TabG H1 P ∧ R a H1)
    (fin : ∀ a H1 g s5, R a H1 → GxR.Ready X pins σ H1 P a pb g s5 → G (.ref g) s5) :
    wpAny (model X.prog X.w) X.A (eval (.GeneratorExp e [⟨.Name x px, it, [], 0⟩] sc gp) X.env) G X.xe s := by
  have deep : X.A.depth < recursionLimit := by have q := room.dp; omega
  refine wpAny_GeneratorExp_walksQ room.hd gs.co (closure_ok gs.free) gs.cell gs.dot gs.loc gs.kind deep ?_ fold
  refine thn (pit.run pins s σ H _ I want) fun xv z ⟨v, H1, J, rv, got⟩ => ?_
  obtain ⟨a, rfl, ⟨rows, isT, trip⟩, rest⟩ := got
  obtain ⟨t, rfl⟩ := _root_.id rv
  refine wpAny_pyIter_str fun io St W st0 => ?_
  have atP : z.heap.get? P = some { cls := .none, data := .fields rows } := J.hok P _ isT
  have ltP : P < z.heap.objs.size := Heap.lt_size atP
  have atP2 : (z.heap.push io).get? P = some { cls := .none, data := .fields rows } := Heap.get?_push_of_some _ atP
  have chd : PySem.W.CodeHd (z.heap.push io) c P := tab.code.keeps fun b u q => Heap.get?_push_of_some _ (J.bk b u q)
  have nl : (z.heap.push io).NoLimit := J.nolimit.push io
  have go : ∀ (cv : Value) (h3 : Heap) (tk : Nat) (rows' : Array Value), Heap.ExtBut P (z.heap.push io) h3 → (z.heap.push io).objs.size ≤ h3.objs.size →
      h3.get? P = some { cls := .none, data := .fields rows' } → (∃ more, rows' = rows ++ more) → TriplesOk rows'.toList →
      wpAny (model X.prog X.w) X.A (builtinsFor X.env.globals X.env.builtins) (fun bi s4 =>
        ∃ Ia fp wr n0 Pf S0 pz F, Value.ref z.heap.objs.size = .ref Ia ∧ (∀ B : Around, B.handled = none → Walks X.prog X.w B Ia fp wr n0 Pf S0) ∧
          S0 0 s4.heap ∧ (∀ b ∈ fp, b < s4.heap.objs.size) ∧ s4.heap.NoLimit ∧ cStatics ∉ wr ∧
          (∀ hr : Heap, (∀ b o, s4.heap.get? b = some o → hr.get? b = some o) →
            QuietGen X.prog X.w (genEnv sc (cloFrom X.env.cells sc.names []) s4.heap.objs.size cv bi X.env) x [] e (List.range s4.heap.objs.size) wr Pf pz F hr) ∧
          (∀ g h5 tk gst, gst.bare = true → s4.heap.objs.size < g → h5.objs.size = g + 1 → (∀ b o, s4.heap.get? b = some o → h5.get? b = some o) →
            WalksS X.prog X.w X.A.in4 g (g :: s4.heap.objs.size :: List.range s4.heap.objs.size) (s4.heap.objs.size :: wr) (GenOnlyQ s4.gens.size) (passing pz n0 0).length
              (fun j y => ∃ i, (passing pz n0 0)[j]? = some i ∧ F i y) (GenAt X.prog X.w X.A.in4 g s4.gens.size s4.heap.objs.size (List.range s4.heap.objs.size) wr pz n0 F) →
            GenAt X.prog X.w X.A.in4 g s4.gens.size s4.heap.objs.size (List.range s4.heap.objs.size) wr pz n0 F 0 { s4 with gens := s4.gens.push gst, toks := tk, heap := h5 } →
            G (.ref g) { s4 with gens := s4.gens.push gst, toks := tk, heap := h5 })) X.xe { z with heap := h3, toks := tk } := by
    intro cv h3 tk rows' ext le3 at3 grown trip3
    obtain ⟨bm, ob, b1, b2, b3, b4, b5, b6, b7, b8⟩ := tab.bm
    have cP : cStatics ≠ P := fun q => by
      obtain ⟨_, ns, _⟩ := J.nolimit
      obtain ⟨o9, es, ep, g9, d9, _⟩ := ns
      rw [q, atP] at g9; cases g9; cases d9
    have cLt : cStatics < z.heap.objs.size := let ⟨_, ns, _⟩ := J.nolimit; ns.lt
    have szI : (z.heap.push io).objs.size = z.heap.objs.size + 1 := Heap.size_push ..
    have kp3 : ∀ b u, b ≠ P → z.heap.get? b = some u → h3.get? b = some u := fun b u nb q => ext b u nb (Heap.get?_push_of_some _ q)
    have kpB : ∀ b u, X.base.get? b = some u → h3.get? b = some u ∧ b < z.heap.objs.size := fun b u q => by
      obtain ⟨q1, q2⟩ := J.bs b u q
      exact ⟨kp3 b u (fun zz => by rw [zz, isT] at q2; cases q2) q1, Heap.lt_size q1⟩
    refine wpAny_builtinsFor (m := X.mg) (by rw [J.ok.glob]; exact ((J.mod.glob.keeps J.bk).push io).extBut ext tab.gP) b1 b2 (kp3 _ _ b4 (J.bk _ _ b5)) b6 b7 b8 ?_
    refine ⟨z.heap.objs.size, [z.heap.objs.size], [z.heap.objs.size], a.cps.size, SignAt a, St, (fun _ => true), (fun i y => ∃ cc, a.cps[i]? = some cc ∧ y = .bool (pb cc)), rfl, W,
      ?_, ?_, nl.extBut ext cP, ?_, ?_, ?_⟩
    · refine (W X.A room.hd).frame _ _ _ st0 fun b hb u q => ext b u (fun zz => ?_) q
      rcases List.mem_cons.mp hb with z2 | z2
      · exact Nat.ne_of_lt ltP (zz.symm.trans z2)
      · cases z2
    · intro b hb
      rcases List.mem_cons.mp hb with q | q
      · rw [q]; show z.heap.objs.size < h3.objs.size; omega
      · cases q
    · intro q
      rcases List.mem_cons.mp q with q | q
      · exact Nat.ne_of_lt cLt q
      · cases q
    · intro hr hhr
      refine ⟨fun B E' i v s2 m2 hB hPv hn hm hk => ?_, fun B E' i v s2 m2 hB hPv hp hn hm hk => ?_⟩
      · simp only [List.forIn_nil]
        exact wpAny_pure ⟨rfl, GxR.keeps_refl _⟩
      · obtain ⟨cc, u, hcc, rfl⟩ := hPv
        refine wpAny_mono (pel _ B E' cc u s2 m2 rfl J.ok.glob (fun b o q => ?_) hn hm) (fun y s3 r => ⟨⟨cc, hcc, r.1⟩, r.2⟩) fun _ _ q => q
        obtain ⟨q1, q2⟩ := kpB b o q
        exact hk b (List.mem_range.mpr (Heap.lt_size q1)) (fun zz => by
          rcases List.mem_cons.mp zz with zz | zz
          · exact Nat.ne_of_lt q2 zz
          · cases zz) o (hhr b o q1)
    · intro g h5 tk5 gst bare gt sz5 kp5 W5 at0
      simp only [GxR.passing_true, List.length_range] at W5
      refine fin a H1 g _ rest ⟨_, _, _, _, _, W5.in4_1, at0, ?_, fun s9 mv => ?_⟩
      · intro j y sj Qj Ej hy hQj
        obtain ⟨i, hij, cc, hcc, rfl⟩ := hy
        obtain ⟨hj, ej⟩ := List.getElem?_eq_some_iff.mp hij
        rw [List.getElem_range] at ej
        subst ej
        have q9 : a.cps.toList[j]? = some cc := by rw [Array.getElem?_toList]; exact hcc
        have hQ2 : Qj (GxR.trF pb a.cps.toList j) sj := hQj
        rw [GxR.trF_some q9] at hQ2
        exact wpAny_truthy_bool hQ2
      · obtain ⟨more, em⟩ := grown
        have nw : ∀ b u, z.heap.get? b = some u → b ∉ h3.objs.size :: [z.heap.objs.size] := fun b u q hb => by
          have lb := Heap.lt_size q
          rcases List.mem_cons.mp hb with q | q
          · rw [q] at lb
            have q9 : (h3.objs.size : Nat) < z.heap.objs.size := lb
            omega
          · rcases List.mem_cons.mp q with q | q
            · rw [q] at lb; exact Nat.lt_irrefl _ lb
            · cases q
        have J2 := GxR.inv_tab (more := more) (h' := s9.heap) (g' := s9.gens) (d' := s9.drawn) (t' := s9.toks) J isT (fun b u nb q => mv.heap b u (nw b u q) (kp5 b u (kp3 b u nb q)))
          (by rw [← em]; exact mv.heap P _ (nw P _ atP) (kp5 P _ at3)) (AllBare.movedS (J.bare.push bare) mv)
        rw [GxR.sh_eta z s9 mv.os] at J2
        exact ⟨upd H1 P (.tbl (rows ++ more)), ⟨⟨rows ++ more, upd_same, by rw [← em]; exact trip3⟩, fun b nb => upd_ne nb⟩, J2⟩
  refine ⟨nl, ?_⟩
  cases am : codeAmong gp rows.toList with
  | none =>
    refine wpAny_genexprCodeX code (chd.code atP2 trip) (chd.tab atP2) am fun c' h' tk hx hge hlt hco _ htab _ => ?_
    obtain ⟨o1, vs, f1, tf, fl, tg, inF, tx, tt, op, _, _, _, _, _, _, _, _, _, htr, _⟩ := hco
    exact go _ h' tk _ hx (Nat.le_trans hge (Nat.le_of_lt hlt)) htab.2 ⟨_, rfl⟩ htr
  | some cv =>
    refine wpAny_genexprCode_hit code (chd.code atP2 trip) am ?_
    exact go cv (z.heap.push io) z.toks rows (Heap.ExtBut.refl _ _) (Nat.le_refl _) atP2 ⟨#[], by simp⟩ trip

/-- all(e for x in a text) -/
theorem pe_allB {c P : Addr} {e it : Expr} {x : Str} {px p pos gp : Pos} {sc : Scope} {pb : Nat → Bool} {te : TE} {k : Nat}
    (room : Room k X.A) (hg : Gl X "all") (hm : X.mg "all" = none) (tab : GxR.TabB X.base X.mg c P) (code : X.env.code = .ref c) (gs : GxR.GenS X.env sc x) (pit : PE X it te) (pel : EltB X sc x e pb)
    (fold : ∀ v, genFold it X.env v = pure v)
    (he : starEach [.GeneratorExp e [⟨.Name x px, it, [], 0⟩] sc gp] X.env = (false, eval (.GeneratorExp e [⟨.Name x px, it, [], 0⟩] sc gp) X.env) :: starEach [] X.env := by rfl) :
    PE X (.Call (.Name "all" p) [.GeneratorExp e [⟨.Name x px, it, [], 0⟩] sc gp] [] pos) (GxR.tAllS P pb te) := by
  refine ⟨fun pins s σ H Q I want => ?_⟩
  have hb : bootBuiltins "all" = some (.builtin "all") := by decide +kernel
  refine wpAny_Call_Name_kw (ld_blt I hg hm hb ?_)
  refine PyProof.Rows.callWith_builtin1 ?_ he (by rfl)
  rw [he]
  show wpAny _ _ (spliced ((false, eval (.GeneratorExp e [⟨.Name x px, it, [], 0⟩] sc gp) X.env) :: backTo pos (starEach [] X.env))) _ _ s
  refine Calls.spliced_cons (genB (R := fun a H1 => ∀ H2, GxR.Tabbed P H1 H2 → Q (.bl (a.cps.toList.all pb)) H2) room tab code gs pit pel fold I want fun a H1 g s5 hR rd => ?_)
  obtain ⟨fp, wr, G, F, St, W, hst, htr, hI⟩ := rd
  refine Calls.spliced_nil ?_
  refine call_all_walkS (W.self 0 _ _ _ hst ⟨g, fp, wr, G, _, F, St, _, rfl, W, hst, htr, fun s' mv => ?_⟩)
  obtain ⟨H2, hT, J⟩ := hI s' mv
  refine ⟨.bl _, H2, J, rfl, ?_⟩
  rw [GxR.all_signs a pb]
  exact hR H2 hT

/-- x in NAME: NAME a text of the module -/
theorem elt_in {sc : Scope} {x y z : Str} {tz : Tok} {p1 p2 p3 : Pos} (gls : X.base.Ns mainGlobals X.mg) (hk : sc.kind = .function) (hl : sc.names.lookup x = some .local)
    (hy : sc.names.lookup y = some .globalImplicit) (hm : X.mg y = some (.str z tz)) (hd : (x == ("__debug__" : Str)) = false := by decide) (hd2 : (y == ("__debug__" : Str)) = false := by decide) :
    EltB X sc x (.Compare (.Name x p1) [.In] [.Name y p2] p3) (fun c => decide (c ∈ z.cps.toList)) := by
  intro ge B F c t q m hs hgl kb hn hx
  refine wpAny_Compare1 ?_
  refine wpAny_Name (wpAny_loadName_local (by rw [hs]; exact hk) (show ge.scope.names.lookup x = some .local by rw [hs]; exact hl) hn hx ?_) hd
  refine Calls.Name_function_global (by rw [hs]; exact hk) ?_ (Calls.loadGlobal_global (by rw [hgl]; exact gls.keeps kb) hm ?_) hd2
  · show ge.scope.names.lookup y = some .globalImplicit
    rw [hs]; exact hy
  · refine PyProof.Rows.in_str ⟨?_, GxR.keeps_refl _⟩
    rw [PySem.StrLaws.found_one z c]
end
end Kk

namespace Kk
open PySem PySem.Spec PyProof.Rows L2

/-- no table of a code object -/
def NoTb (o : HO) : Prop := ∀ ps, o ≠ .tbl ps
theorem nt_lst {xs : List V} : NoTb (.lst xs) := fun _ h => by cases h
theorem nt_tup {xs : List V} : NoTb (.tup xs) := fun _ h => by cases h
theorem nt_dK {xs : List (Key × V)} : NoTb (.dK xs) := fun _ h => by cases h
theorem nt_frz {o : Obj} {u : HO} : NoTb (.frz o u) := fun _ h => by cases h
/-- what never changes -/
def Fx : HO → Bool
  | .tup _ => true
  | .frz _ _ => true
  | _ => false
/-- what stands stays, but for xs and what the tables grow by; nothing vanishes; tuples stay -/
structure Ex (xs : List Addr) (H H' : Hp) : Prop where
  a : ∀ b o, b ∉ xs → H b = some o → NoTb o → H' b = some o
  c : ∀ b o, H b = some o → Fx o = true → H' b = some o
  t : ∀ P, GxR.TabG H P → GxR.TabG H' P
  f : ∀ b, H' b = none → H b = none
theorem Ex.refl {xs : List Addr} {H : Hp} : Ex xs H H := ⟨fun _ _ _ h _ => h, fun _ _ h _ => h, fun _ h => h, fun _ h => h⟩
theorem Ex.trans {xs : List Addr} {H H1 H2 : Hp} (a : Ex xs H H1) (b : Ex xs H1 H2) : Ex xs H H2 :=
  ⟨fun c o n h t => b.a c o n (a.a c o n h t) t, fun c o h t => b.c c o (a.c c o h t) t, fun P h => b.t P (a.t P h), fun c h => a.f c (b.f c h)⟩
theorem Ex.mono {xs ys : List Addr} {H H' : Hp} (a : Ex xs H H') (s : ∀ b, b ∈ xs → b ∈ ys) : Ex ys H H' := ⟨fun c o n h t => a.a c o (fun q => n (s c q)) h t, a.c, a.t, a.f⟩
theorem Ex.nil {ys : List Addr} {H H' : Hp} (a : Ex [] H H') : Ex ys H H' := a.mono fun _ q => by cases q
theorem tab_upd {H : Hp} {P p : Addr} {o : HO} (t : GxR.TabG H P) (n : ∀ ps, H p ≠ some (.tbl ps)) : GxR.TabG (upd H p o) P := by
  obtain ⟨ps, h, q⟩ := t
  refine ⟨ps, ?_, q⟩
  rw [upd_ne fun z => n ps (by rw [← z]; exact h)]
  exact h
theorem upd_free {H : Hp} {p b : Addr} {o : HO} (h : upd H p o b = none) : H b = none := by
  by_cases z : b = p
  · rw [z, upd_same] at h; cases h
  · rw [upd_ne z] at h; exact h
theorem Ex.new {xs : List Addr} {H : Hp} {p : Addr} {o : HO} (n : H p = none) : Ex xs H (upd H p o) :=
  ⟨fun b u _ h _ => by rw [upd_ne (ne_of_none h n)]; exact h, fun b u h _ => by rw [upd_ne (ne_of_none h n)]; exact h, fun P h => tab_upd h fun ps z => (by rw [n] at z; cases z), fun b h => upd_free h⟩
theorem Ex.put {xs : List Addr} {H : Hp} {p : Addr} {u o : HO} (h0 : H p = some u) (nt : NoTb u) (m : p ∈ xs) (fx : Fx u = false := by rfl) : Ex xs H (upd H p o) :=
  ⟨fun b w nb h _ => by rw [upd_ne fun z => nb (by rw [z]; exact m)]; exact h, fun b w h k => (by
    have nb : b ≠ p := fun z => by rw [z, h0] at h; cases h; rw [fx] at k; cases k
    rw [upd_ne nb]; exact h), fun P h => tab_upd h fun ps z => (by rw [h0] at z; cases z; exact nt _ rfl), fun b h => upd_free h⟩
/-- an object of one's own, made on the way, may have changed -/
theorem Ex.own {xs : List Addr} {H H1 H' : Hp} {p : Addr} (n : H p = none) (e : Ex xs H H1) (a : Ex (p :: xs) H1 H') : Ex xs H H' :=
  ⟨fun b u nb h t => a.a b u (fun q => by
      rcases List.mem_cons.mp q with z | z
      · rw [z, n] at h; cases h
      · exact nb z) (e.a b u nb h t) t, fun b u h k => a.c b u (e.c b u h k) k, fun P h => a.t P (e.t P h), fun b h => e.f b (a.f b h)⟩
theorem Ex.lst {xs : List Addr} {H H' : Hp} {p : Addr} {ys : List V} (a : Ex xs H H') (h : H p = some (.lst ys)) (n : p ∉ xs := by simp) : H' p = some (.lst ys) := a.a p _ n h nt_lst
theorem Ex.dK {xs : List Addr} {H H' : Hp} {p : Addr} {ys : List (Key × V)} (a : Ex xs H H') (h : H p = some (.dK ys)) (n : p ∉ xs := by simp) : H' p = some (.dK ys) := a.a p _ n h nt_dK
theorem Ex.tup {xs : List Addr} {H H' : Hp} {p : Addr} {ys : List V} (a : Ex xs H H') (h : H p = some (.tup ys)) : H' p = some (.tup ys) := a.c p _ h rfl
theorem Ex.seqL {K : PySem.W.Frag} {xs : List Addr} {H H' : Hp} {p : Addr} {ys : List V} (a : Ex xs H H') (h : SqL K H p ys) (n : p ∉ xs := by simp) : SqL K H' p ys := by
  rcases h with (h | ⟨o, h⟩) | h
  · exact .inl (.inl (a.a p _ n h nt_lst))
  · exact .inl (.inr ⟨o, a.c p _ h rfl⟩)
  · exact .inr h
theorem Ex.seqT {K : PySem.W.Frag} {xs : List Addr} {H H' : Hp} {p : Addr} {ys : List V} (a : Ex xs H H') (h : SqT K H p ys) : SqT K H' p ys := by
  rcases h with (h | ⟨o, h⟩) | h
  · exact .inl (.inl (a.c p _ h rfl))
  · exact .inl (.inr ⟨o, a.c p _ h rfl⟩)
  · exact .inr h
theorem Ex.tabbed {xs : List Addr} {H H' : Hp} {P : Addr} (t : GxR.TabG H P) (k : GxR.Tabbed P H H') : Ex xs H H' := by
  obtain ⟨ps, e, _⟩ := t
  have st : ∀ b o, H b = some o → NoTb o → H' b = some o := fun b o h nt => by
    rw [k.2 b fun z => by rw [z, e] at h; cases h; exact nt _ rfl]; exact h
  refine ⟨fun b o _ h nt => st b o h nt, fun b o h fx => st b o h fun ps z => (by rw [z] at fx; cases fx), fun Q q => ?_, fun b h => ?_⟩
  · by_cases z : Q = P
    · rw [z]; exact k.1
    · obtain ⟨qs, h, r⟩ := q
      exact ⟨qs, by rw [k.2 Q z]; exact h, r⟩
  · by_cases z : b = P
    · obtain ⟨⟨qs, h', _⟩, _⟩ := k
      rw [z, h'] at h; cases h
    · rw [k.2 b z] at h; exact h

/-! data: texts, ints, truths, None, and tuples of these -/
mutual
inductive Tp (K : PySem.W.Frag) (H : Hp) : V → PyData → Prop
  | non : Tp K H .non .none
  | bl (b : Bool) : Tp K H (.bl b) (.bool b)
  | int (i : Int) : Tp K H (.int i) (.int i)
  | str (x : Str) : Tp K H (.str x) (.str x)
  | tup {a : Addr} {xs : List V} {ds : List PyData} : SqT K H a xs → TpAll K H xs ds → Tp K H (.ref a) (.tuple ds)
inductive TpAll (K : PySem.W.Frag) (H : Hp) : List V → List PyData → Prop
  | nil : TpAll K H [] []
  | cons {v : V} {vs : List V} {d : PyData} {ds : List PyData} : Tp K H v d → TpAll K H vs ds → TpAll K H (v :: vs) (d :: ds)
end
section
variable {K : PySem.W.Frag} {H H' : Hp} {xs : List Addr}
mutual
theorem Tp.ex (e : Ex xs H H') : ∀ {v : V} {d : PyData}, Tp K H v d → Tp K H' v d
  | _, _, .non => .non
  | _, _, .bl b => .bl b
  | _, _, .int i => .int i
  | _, _, .str x => .str x
  | _, _, .tup h r => .tup (e.seqT h) (TpAll.ex e r)
theorem TpAll.ex (e : Ex xs H H') : ∀ {vs : List V} {ds : List PyData}, TpAll K H vs ds → TpAll K H' vs ds
  | _, _, .nil => .nil
  | _, _, .cons h r => .cons (Tp.ex e h) (TpAll.ex e r)
end
mutual
theorem Tp.dp : ∀ {v : V} {d : PyData}, Tp K H v d → Dp K H v d
  | _, _, .non => .non
  | _, _, .bl b => .bl b
  | _, _, .int i => .int i
  | _, _, .str x => .str x
  | _, _, .tup h r => .tup h (TpAll.dp r)
theorem TpAll.dp : ∀ {vs : List V} {ds : List PyData}, TpAll K H vs ds → DpAll K H vs ds
  | _, _, .nil => .nil
  | _, _, .cons h r => .cons (Tp.dp h) (TpAll.dp r)
end
theorem TpAll.len {vs : List V} {ds : List PyData} (h : TpAll K H vs ds) : vs.length = ds.length := by
  induction vs generalizing ds with
  | nil => cases h; rfl
  | cons v vs ih => cases h with | cons a b => rw [List.length_cons, List.length_cons, ih b]
theorem TpAll.get {vs : List V} {ds : List PyData} (h : TpAll K H vs ds) : ∀ {i : Nat} {v : V}, vs[i]? = some v → ∃ d, ds[i]? = some d ∧ Tp K H v d := by
  induction vs generalizing ds with
  | nil => intro i v e; simp at e
  | cons v0 vs ih =>
    cases h with
    | cons a b =>
      intro i v e
      cases i with
      | zero => cases e; exact ⟨_, rfl, a⟩
      | succ i => exact ih b (i := i) (by simpa using e)
theorem TpAll.app {vs us : List V} {ds es : List PyData} (h : TpAll K H vs ds) (g : TpAll K H us es) : TpAll K H (vs ++ us) (ds ++ es) := by
  induction vs generalizing ds with
  | nil => cases h; exact g
  | cons v vs ih => cases h with | cons a b => exact .cons a (ih b)
theorem TpAll.strs : ∀ ws : List Str, TpAll K H (ws.map V.str) (ws.map PyData.str)
  | [] => .nil
  | w :: ws => .cons (.str w) (TpAll.strs ws)
theorem Tp.new {p : Addr} {ts : List V} {ds : List PyData} (n : H p = none) (h : TpAll K H ts ds) : Tp K (upd H p (.tup ts)) (.ref p) (.tuple ds) :=
  .tup (.of upd_same) (h.ex (.new (xs := []) n))
end

/-- a def whose code object is known: its generators' codes go into its own table -/
theorem okC {P : Program} {w : World} {K : PySem.W.Frag} {mg : Str → Option Value} {base : Heap} {x qual : Str} {st : Stmt} {f c : Addr} {N ps : List Str} {k : Nat} {sp : Sp}
    {oc : Value} {od an : Option Addr} {osl : Array (Option Value)} {kV doc pm ct : Value}
    (lk : K.lookup f = some ⟨oc, od, .func (PySem.W.fnOf x qual (defArgs st) (defBody st) (defScope st) .none kV doc pm an (.ref c) ct), osl⟩) (hc : PySem.W.codeIn K (.ref c) qual = true)
    (S : FnScope N ps (defScope st)) (len : ∀ vs H Q E, sp vs H Q E → vs.length = ps.length)
    (body : ∀ (A : Around) (outer : List Env) (s : Shared) (H : Hp) (vs : List V) (Q : VK) (E : XK), Room k (A.deeper (envOfC qual (defScope st) s.heap.objs.size f (.ref c))) → sp vs H Q E →
      ∃ t, PSs (cxOf CX0 P w K mg base N qual (defScope st) f (.ref c) A outer s H E).nox (defBody st) t ∧ t { nx := fun _ H' => Q .non H', rt := Q } (start N vs) H) :
    FnOk P w K mg base CX0 (k + 1) f (PySem.W.fnOf x qual (defArgs st) (defBody st) (defScope st) .none kV doc pm an (.ref c) ct) ps sp := by
  refine fn_of lk hc S len fun A outer s H vs Q E hr hsp => ?_
  obtain ⟨t, h, q⟩ := body A outer s H vs Q E hr hsp
  exact ⟨t, h.nox, q⟩
/-- a def that may be called: its promise, where it stands, how its arguments come -/
structure Cl (P : Program) (w : World) (K : PySem.W.Frag) (mg : Str → Option Value) (base : Heap) (k : Nat) (x : Str) (ps : List Str) (sp : Sp) (f : Addr) (fd : FuncData) : Prop where
  g : FnOk P w K mg base CX0 k f fd ps sp
  k : PySem.W.keepIn K (.ref f) = true
  b : Binds K fd ps []
  m : mg x = some (.ref f)
/-- where a def stands -/
structure At (K : PySem.W.Frag) (mg : Str → Option Value) (x : Str) (st : Stmt) (ps : List Str) (f : Addr) (fd : FuncData) : Prop where
  F : Fun K x x st f fd
  b : Binds K fd ps []
  m : mg x = some (.ref f)
theorem At.cl {P : Program} {w : World} {K : PySem.W.Frag} {mg : Str → Option Value} {base : Heap} {x : Str} {st : Stmt} {ps : List Str} {f : Addr} {fd : FuncData} {j k : Nat} {sp : Sp} (A : At K mg x st ps f fd) (g : FnOk P w K mg base CX0 j f fd ps sp) (h : j ≤ k) :
    Cl P w K mg base k x ps sp f fd := ⟨g.mono h, A.F.kp, A.b, A.m⟩
/-- nothing is promised of a call that never comes -/
theorem ok_never {P : Program} {w : World} {K : PySem.W.Frag} {mg : Str → Option Value} {base : Heap} {k : Nat} {ps : List Str} {f : Addr} {fd : FuncData} : FnOk P w K mg base CX0 k f fd ps (fun _ _ _ _ => False) :=
  ⟨fun _ _ _ _ h => h.elim, fun _ _ _ _ _ _ _ _ _ _ _ _ _ h => h.elim⟩
def rLenK (K : PySem.W.Frag) : List V → Hp → VK → Prop := fun xs H Q => ∃ p ys, xs = [V.ref p] ∧ (SqL K H p ys ∨ SqT K H p ys) ∧ Q (V.int ys.length) H
/-- within a comprehension: the written part is the def's own -/
theorem call_lenK {X : Cx} {K : PySem.W.Frag} (h : X.K = K) : CallR X (.builtin "len") (rLenK K) := by subst h; exact call_len_seq
theorem ix_listK {X : Cx} {K : PySem.W.Frag} (h : X.K = K) : IxR X (rIxL K) := by subst h; exact ix_list
theorem ix_tupK {X : Cx} {K : PySem.W.Frag} (h : X.K = K) : IxR X (rIxT K) := by subst h; exact ix_tup
theorem op_mul_str {X : Cx} : OpR X (binaryOp .Mult) (fun x y H Q => ∃ z n, x = .str z ∧ y = .int n ∧ MulOk z n ∧ Q (.str (Txt.mul z n)) H) := by
  intro pins s σ H x y v u Q I rx ry h
  obtain ⟨z, n, rfl, rfl, ok, q⟩ := h
  obtain ⟨t, rfl⟩ := rx
  obtain ⟨t', rfl⟩ := ry
  exact SB.mul ok fun t2 k => ⟨.str _, H, I.tok k, ⟨_, rfl⟩, q⟩
/-- a list held against the empty one -/
theorem op_eq_nil {X : Cx} {k : Nat} (hr : Room k X.A) : OpR X (compareOp .Eq) (fun x y H Q => ∃ a b xs, x = .ref a ∧ y = .ref b ∧ SqL X.K H a xs ∧ SqL X.K H b [] ∧ Q (.bl xs.isEmpty) H) := by
  intro pins s σ H x y v u Q I rx ry h
  obtain ⟨a, b, xs, rfl, rfl, ha, hb, q⟩ := h
  cases (show v = Value.ref a from rx)
  cases (show u = Value.ref b from ry)
  obtain ⟨its, r, pl, hz⟩ := I.list ha
  obtain ⟨its2, r2, pl2, hz2⟩ := I.list hb
  have e2 : its2 = [] := List.length_eq_zero_iff.mp r2.length.symm
  subst e2
  cases xs with
  | nil =>
    have e1 : its = [] := List.length_eq_zero_iff.mp r.length.symm
    subst e1
    exact SeqAt.eq_listAt (e := fun _ => true) pl.isList pl2.isList rfl hr.units0 (fun j h1 _ => absurd h1 (Nat.not_lt_zero j)) ⟨.bl true, H, I, rfl, q⟩
  | cons z zs =>
    have e1 : its.length = zs.length + 1 := r.length.symm
    refine SeqAt.eq_list_lengthsAt pl.isList pl2.isList ?_ hr.units0 ⟨.bl false, H, I, rfl, q⟩
    simp [e1]
end Kk

set_option maxHeartbeats 1000000
namespace Kk
open PySem PySem.Spec PyProof.Rows L2 GenW
/-! a generator expression whose element may do anything: its own frame's context -/
def gxC (X : Cx) (A : Around) (ge : Env) (N : List Str) (sc : Shared) (H : Hp) (ex : List Addr) (pn : List (Addr × Obj)) : Cx where
  prog := X.prog
  w := X.w
  K := X.K
  mg := X.mg
  base := X.base
  A := A.deeper ge
  N := N
  s_0 := sc
  H_0 := H
  env := ge
  outer := X.stack
  stack := ge :: X.stack
  ex := ex
  fn := fun _ => false
  calm := true
  pn := pn
  xe := fun _ _ => False
/-- what holds at any halt of it -/
structure Out (P : Program) (w : World) (outer : List Env) (ex : List Addr) (H H' : Hp) (sc s1 : Shared) : Prop where
  os : s1.os = sc.os
  bare : AllBare s1.gens
  un : Un (frs outer) ex H H' sc.heap s1.heap
  hok : HOk P w H' s1.heap
theorem Out.of {Y : Cx} {pins : List (Addr × Obj)} {σ : L2.St} {H : Hp} {s : Shared} (I : Inv Y pins σ H s) : Out Y.prog Y.w Y.outer Y.ex Y.H_0 H Y.s_0 s := ⟨I.os, I.bare, I.base, I.hok⟩
/-- while it sleeps: its consumer's own objects may change -/
structure Slp (cs : List Addr) (cp' : List (Addr × Obj)) (s s' : Shared) : Prop where
  os : s'.os = s.os
  bare : AllBare s'.gens
  keep : ∀ b o, b ∉ cs → s.heap.get? b = some o → s'.heap.get? b = some o
  own : ∀ p ∈ cp', s'.heap.get? p.1 = some p.2
/-- a consumer: its own objects, and what they hold by what came so far -/
structure Cons where
  cs : List Addr
  cr : List V → List (Addr × Obj) → Prop
  ok : ∀ ys cp, cr ys cp → cp.map Prod.fst = cs ∧ ∀ p ∈ cp, ∀ v, p.2.data ≠ .cell v
theorem woken {Y : Cx} {cs : List Addr} {cp cp' ip : List (Addr × Obj)} {σ : L2.St} {H : Hp} {s s' : Shared} (hm : cp.map Prod.fst = cs) (hm' : cp'.map Prod.fst = cs) (hd : ∀ p ∈ cp', ∀ v, p.2.data ≠ .cell v)
    (hpn : ∀ p ∈ Y.pn, p.1 ∉ cs) (hip : ∀ p ∈ ip, p.1 ∉ cs) (hA : ∀ b ∈ cs, Y.s_0.heap.objs.size ≤ b ∧ ∀ x c, Y.env.cells.lookup x = some c → c ≠ b) (I : Inv Y (cp ++ ip) σ H s) (z : Slp cs cp' s s') : Inv Y (cp' ++ ip) σ H s' := by
  have at1 : ∀ b ∈ cs, H b = none ∧ b ≠ Y.env.locals ∧ b ∉ Y.fs := fun b hb => by
    rw [← hm] at hb
    obtain ⟨p, hp, rfl⟩ := List.mem_map.mp hb
    obtain ⟨_, h2, h3, h4, _⟩ := I.pin p (List.mem_append_right _ (List.mem_append_left _ hp))
    exact ⟨h2, h3, h4⟩
  have I0 : Inv Y ip σ H s := I.pins_of fun p hp => I.pin p (List.mem_append_right _ (List.mem_append_right _ hp))
  have nt : ∀ b u, H b = some u → b ∉ cs := fun b u q hb => by rw [(at1 b hb).1] at q; cases q
  obtain ⟨z1, z2, z3, z4⟩ := z
  obtain ⟨hh, g, d, t, o⟩ := s'
  have ho : o = s.os := z1
  subst ho
  have J : Inv Y ip σ H { s with heap := hh, gens := g, drawn := d, toks := t } := by
    refine I0.step (g' := g) (t' := t) (d' := d) (ch := cs) (fun b hb => ?_)
      (fun b ob _ _ hc q _ => z3 b ob hc q) (fun b ob _ _ hc q _ => ⟨ob.slots, z3 b ob hc q⟩) (fun _ _ _ _ n => n) (fun b ob hc q => ⟨ob, z3 b ob hc q⟩)
      (fun _ _ q => q) (fun _ _ _ q => q) (fun b ps q => ⟨#[], by rw [q]; simp⟩) (fun m hm => ?_) (fun b u q => ?_) z2
    · refine ⟨.inr (hA b hb).1, (at1 b hb).2.1, (hA b hb).2, fun p hp e => ?_⟩
      rcases List.mem_append.mp hp with hp | hp
      · exact hpn p hp (e ▸ hb)
      · exact hip p hp (e ▸ hb)
    · obtain ⟨ob, es, ep, ho, r⟩ := hm
      exact ⟨ob, es, ep, z3 _ ob (fun hb => (at1 _ hb).2.1 rfl) ho, r⟩
    · refine (I0.hok b u q).stay (fun c v hc y => z3 c v ?_ y) (fun _ y => y) fun _ _ y => y
      rcases hc with y | y
      · rw [y]; exact nt b u q
      · exact nt c _ y
  refine J.pins_of fun p hp => ?_
  rcases List.mem_append.mp hp with hp | hp
  · have hb : p.1 ∈ cs := by rw [← hm']; exact List.mem_map.mpr ⟨p, hp, rfl⟩
    exact ⟨z4 p hp, (at1 _ hb).1, (at1 _ hb).2.1, (at1 _ hb).2.2, hd p hp⟩
  · exact J.pin p (List.mem_append_right _ hp)

/-- the end of a run -/
def LEnd (P : Program) (w : World) (outer : List Env) (ex : List Addr) (H : Hp) (sc : Shared) (c : Cons) (Q : List V → Hp → Prop) : Nat → Shared → Shared → Prop := fun n s₀ s1 =>
  ∃ H' ys cp, Out P w outer ex H H' sc s1 ∧ c.cr ys cp ∧ (∀ p ∈ cp, s1.heap.get? p.1 = some p.2 ∧ H' p.1 = none) ∧ ys.length ≤ sizeLine ∧ Q ys H'
/-- an item is handed out; Yd: what is wanted of it, and whether the run goes on -/
def LItem (P : Program) (w : World) (outer : List Env) (ex : List Addr) (H : Hp) (sc : Shared) (c : Cons) (Yd : List V → V → Hp → Prop → Prop) (a : Addr) (g : Nat) : Protocol := fun n s₀ v s1 kap =>
  ∃ ys x cp H' nx, RelV x v ∧ Out P w outer ex H H' sc s1 ∧ s1.heap.NoLimit ∧ s1.heap.IsGen a g ∧ c.cr ys cp ∧ (∀ p ∈ cp, s1.heap.get? p.1 = some p.2 ∧ H' p.1 = none) ∧ n + 1 + ys.length = sizeLine ∧ Yd ys x H' nx ∧
    (nx → ∀ s' cp', c.cr (ys ++ [x]) cp' → Slp c.cs cp' s1 s' → kap (.send .none) s')
/-- the turns of a generator expression, read -/
def GxTurn (J : It) (g : TG) (tt : TT) (te : TE) (σ' : L2.St) (Q : List V → Hp → Prop) (Yd : List V → V → Hp → Prop → Prop) (W : Nat → Nat → List V → Hp → Prop) : Prop :=
  ∀ i m ys H, W i m ys H → (J.stop i H ∧ Q ys H) ∨ (J.go i H ∧ ∃ Nx : List V → Hp → Prop, (∀ ys' H', Nx ys' H' → ∃ m', m' < m ∧ W (i + 1) m' ys' H') ∧ ∀ x H', J.yld i H x H' → g x σ' H' fun σ2 H2 => (∀ (j : Nat) (v : V), σ'[j]? = some (some v) → σ2[j]? = some (some v)) ∧ tt σ2 H2 fun b H3 =>
    if b = true then te σ2 H3 fun y H4 => ys.length < sizeLine ∧ Yd ys y H4 (Nx (ys ++ [y]) H4) else Nx ys H3)
/-- over a walk: Pv by the turn, what came so far and the heap -/
theorem gx_it {J : It} {n : Nat} {G : Hp → Prop} {Yw : Nat → Hp → V → Hp → Prop} (w : Walk J n G Yw) {g : TG} {tt : TT} {te : TE} {σ' : L2.St} {Q : List V → Hp → Prop} {Yd : List V → V → Hp → Prop → Prop} {H1 : Hp}
    (Pv : Nat → List V → Hp → Prop) (h0 : Pv 0 [] H1) (hG : ∀ i ys H, i ≤ n → Pv i ys H → G H)
    (hs : ∀ i x ys H H', i < n → Pv i ys H → Yw i H x H' → g x σ' H' fun σ2 H2 => (∀ (j : Nat) (v : V), σ'[j]? = some (some v) → σ2[j]? = some (some v)) ∧ tt σ2 H2 fun b H3 =>
      if b = true then te σ2 H3 fun y H4 => ys.length < sizeLine ∧ Yd ys y H4 (Pv (i + 1) (ys ++ [y]) H4) else Pv (i + 1) ys H3) (hd : ∀ ys H, Pv n ys H → Q ys H) :
    ∃ W : Nat → Nat → List V → Hp → Prop, (∃ m, W 0 m [] H1) ∧ GxTurn J g tt te σ' Q Yd W := by
  refine ⟨fun i m ys H => m = n - i ∧ i ≤ n ∧ Pv i ys H, ⟨n, by simp, Nat.zero_le _, h0⟩, ?_⟩
  rintro i m ys H ⟨rfl, hi, p⟩
  have q := hG i ys H hi p
  by_cases hlt : i < n
  · exact .inr ⟨w.goes i H hlt q, Pv (i + 1), fun ys' H' p' => ⟨n - (i + 1), by omega, rfl, hlt, p'⟩, fun x H' y => hs i x ys H H' hlt p (w.yields i H x H' hlt q y)⟩
  · have e : i = n := by omega
    subst e
    exact .inl ⟨w.stops H q, hd ys H p⟩

section
variable {Y : Cx} {A : Around} {tg elt iter : Expr} {ifs : List Expr} {scope : Scope} {pos : Pos} {it a : Addr} {gi : Nat} {fp : List Addr} {tn : Nat → Heap → Prop} {J : It} {g : TG} {tt : TT} {te : TE} {σ' : L2.St}
  {Q : List V → Hp → Prop} {Yd : List V → V → Hp → Prop → Prop} {W : Nat → Nat → List V → Hp → Prop} {c : Cons}
theorem seg_gx (hco : Y.env.scope.isCoroutine = false) (hcalm : Y.calm = true) (hover : A.over (.compLoop (.GeneratorExp elt [⟨tg, iter, ifs, 0⟩] scope pos) 0 (.ref it) .none Y.env) [] = Y.A) (hxe : Y.xe = fun _ _ => False)
    (T : Turn Y.prog Y.w Y.K tg J fp it tn) (hfp : ∀ b ∈ fp, b ∈ Y.ex) (hfc : ∀ b ∈ fp, b ∉ c.cs) (hpc : ∀ p ∈ Y.pn, p.1 ∉ c.cs) (hpf : ∀ p ∈ Y.pn, p.1 ∉ fp)
    (hA : ∀ b ∈ c.cs, Y.s_0.heap.objs.size ≤ b ∧ ∀ x k, Y.env.cells.lookup x = some k → k ≠ b) (hgen : ∀ h : Heap, (∀ p ∈ Y.pn, h.get? p.1 = some p.2) → h.IsGen a gi)
    (pg : PG Y tg g) (pt : PTs Y ifs tt) (pe : PE Y elt te) (turn : GxTurn J g tt te σ' Q Yd W) (hl' : σ'.length = Y.N.length) :
    ∀ (m i n : Nat) (ys : List V) (cp : List (Addr × Obj)) (H : Hp) (s₀ s : Shared), W i m ys H → n + ys.length = sizeLine → c.cr ys cp → Inv Y cp σ' H s → tn i s.heap → (∀ b ∈ fp, H b = none) →
      Seg (model Y.prog Y.w) A (fun n s₀ r s1 => r = .ok .next ∧ LEnd Y.prog Y.w Y.outer Y.ex Y.H_0 Y.s_0 c Q n s₀ s1) (LItem Y.prog Y.w Y.outer Y.ex Y.H_0 Y.s_0 c Yd a gi) n s₀
        (.compLoop (.GeneratorExp elt [⟨tg, iter, ifs, 0⟩] scope pos) 0 (.ref it) .none Y.env) ((model Y.prog Y.w).den (.compLoop (.GeneratorExp elt [⟨tg, iter, ifs, 0⟩] scope pos) 0 (.ref it) .none Y.env)) [] s := by
  have no : ∀ {e : Value} {s : Shared} {Z : Prop}, Y.xe e s → Z := fun {e s Z} h => by rw [hxe] at h; exact h.elim
  have stat : ∀ {pins : List (Addr × Obj)} {σ : L2.St} {H' : Hp} {s' : Shared}, Inv Y pins σ H' s' → (∀ p ∈ pins, p.1 ∉ fp) → (∀ b ∈ fp, H' b = none) → ∀ b ∈ fp, FpOk Y pins H' b := fun {pins σ H' s'} I' hp hn b hb =>
    ⟨hn b hb, (I'.ok.exf b (hfp b hb)).1, I'.ok.exfs b (hfp b hb), .inl (hfp b hb), fun x k e => (I'.ok.exf b (hfp b hb)).2 x k e, fun p hq e => by
      rcases List.mem_append.mp hq with q | q
      · exact hpf p q (e ▸ hb)
      · exact hp p q (e ▸ hb)⟩
  have cpf : ∀ {ys : List V} {cp : List (Addr × Obj)}, c.cr ys cp → ∀ p ∈ cp, p.1 ∉ fp := fun {ys cp} h p hp hf => by
    refine hfc p.1 hf ?_
    rw [← (c.ok ys cp h).1]
    exact List.mem_map.mpr ⟨p, hp, rfl⟩
  intro m
  induction m using Nat.strongRecOn with
  | ind m ih =>
    intro i n ys cp H s₀ s hw hn hcr I st fn
    show Seg _ A _ _ n s₀ _ ((compTurn (.GeneratorExp elt [⟨tg, iter, ifs, 0⟩] scope pos) 0 (.ref it) .none Y.env).onRaise (leaving Y.env)) [] s
    rw [compTurn_gen, Sem.onRaise_eq_wrap]
    refine seg_bind_wrap (wpAny_standAt ?_)
    rcases turn i m ys H hw with ⟨stop, q⟩ | ⟨go, Nx, hNx, step⟩
    · refine seg_bind_wrap ?_
      rw [hover]
      refine thn (T.done Y rfl rfl rfl hcalm i cp s σ' H _ I (stat I (cpf hcr) fn) st stop) fun r s1 ⟨hr, I1⟩ => ?_
      subst hr
      refine seg_end (.ok .next) ⟨rfl, H, ys, cp, Out.of I1, hcr, fun p hp => ?_, by omega, q⟩
      obtain ⟨h1, h2, _⟩ := I1.pin p (List.mem_append_right _ hp)
      exact ⟨h1, h2⟩
    · refine seg_bind_wrap ?_
      rw [hover]
      refine thn (T.item Y rfl rfl rfl hcalm i cp s σ' H _ I (stat I (cpf hcr) fn) st go) fun r s1 ⟨u, hr, h1⟩ => ?_
      subst hr
      refine seg_bind_wrap ?_
      rw [hover]
      refine thn h1 fun _ s2 ⟨x, H2, I2, r2, y2, st2, fn2⟩ => ?_
      have I2' := I2.pinned (stat I2 (cpf hcr) fn2) (T.obj _ _ st2)
      refine seg_bind_wrap ?_
      rw [hover]
      refine wpAny_mono (pg.run _ s2 _ H2 x u _ I2' r2 (step x H2 y2)) (fun _ s3 ⟨σ3, H3, I3, sub, q3⟩ => ?_) fun _ _ z => no z
      refine seg_bind_wrap ?_
      rw [hover]
      refine wpAny_mono (pt.run _ s3 σ3 H3 _ I3 q3) (fun b s4 ⟨H4, I4, q4⟩ => ?_) fun _ _ z => no z
      have next : ∀ {s' : Shared} {H' : Hp} {cp' : List (Addr × Obj)}, Inv Y (cp' ++ pinsAt fp s2.heap) σ3 H' s' → Inv Y cp' σ' H' s' ∧ tn (i + 1) s'.heap ∧ ∀ b ∈ fp, H' b = none := fun {s' H' cp'} I' => by
        have pin' : ∀ b ∈ fp, ∀ o, s2.heap.get? b = some o → s'.heap.get? b = some o ∧ H' b = none := fun b hb o e =>
          let z := I'.pin (b, o) (List.mem_append_right _ (List.mem_append_right _ (mem_pinsAt hb e)))
          ⟨z.1, z.2.1⟩
        refine ⟨(I'.unpinned).weak (hl'.trans I'.len.symm) sub, T.keep _ _ _ st2 fun b hb o e => (pin' b hb o e).1, fun b hb => ?_⟩
        obtain ⟨o, e, _⟩ := T.obj _ _ st2 b hb
        exact (pin' b hb o e).2
      cases b with
      | false =>
        simp only [Bool.false_eq_true, if_false] at q4 ⊢
        obtain ⟨m', hm, w'⟩ := hNx _ _ q4
        obtain ⟨J1, J2, J3⟩ := next I4
        exact seg_again rfl (ih m' hm (i + 1) n ys cp H4 s₀ s4 w' hn hcr J1 J2 J3)
      | true =>
        simp only [if_true] at q4 ⊢
        have hy : ∀ v, yieldOut Y.env v = yieldValue v := fun v => by simp only [yieldOut, hco, Bool.false_eq_true, if_false]
        simp only [hy]
        rw [Sem.bind_eq_wrap', Sem.bind_eq_wrap', Sem.wrap_wrap, Sem.wrap_wrap]
        refine seg_wrap ?_
        rw [hover]
        refine wpAny_mono (pe.run _ s4 σ3 H4 _ I4 q4) (fun y s5 ⟨yv, H5, I5, r5, hlt, q5⟩ => ?_) fun _ _ z => no z
        obtain ⟨n, rfl⟩ : ∃ k, n = k + 1 := ⟨n - 1, by omega⟩
        refine seg_at (seg_yield rfl rfl rfl ⟨ys, yv, cp, H5, _, r5, Out.of I5, I5.nolimit, hgen _ fun p hp => (I5.pin p (List.mem_append_left _ hp)).1, hcr, fun p hp => ?_, by omega, q5, ?_⟩)
        · obtain ⟨h1, h2, _⟩ := I5.pin p (List.mem_append_right _ (List.mem_append_left _ hp))
          exact ⟨h1, h2⟩
        · intro hnx s' cp' hcr' z
          obtain ⟨m', hm, w'⟩ := hNx _ _ hnx
          have I6 := woken (c.ok _ _ hcr).1 (c.ok _ _ hcr').1 (c.ok _ _ hcr').2 hpc (fun p hp => hfc _ (of_pinsAt hp).1) hA I5 z
          obtain ⟨J1, J2, J3⟩ := next I6
          exact seg_again rfl (ih m' hm (i + 1) n (ys ++ [yv]) cp' H5 s' s' w' (by rw [List.length_append, List.length_singleton]; omega) hcr' J1 J2 J3)
end
end Kk

set_option maxHeartbeats 1000000
namespace Kk
open PySem PySem.Spec PyProof.Rows L2 GenW
/-- the generator expression's scope -/
structure GxS (osc sc : Scope) : Prop where
  kind : sc.kind = .function
  co : sc.isCoroutine = false
  cell : ∀ y ∈ sc.names, y.2 ≠ .cell
  dot : sc.names.lookup (".0" : Str) = some NameKind.local
  free : ∀ y ∈ sc.names, y.2 = .free → osc.names.lookup y.1 = some .cell ∨ osc.names.lookup y.1 = some .free
/-- its names: nt of its own, then those of around, by their places there -/
structure GxN (N : List Str) (osc sc : Scope) (N' : List Str) (nt : Nat) (js : List Nat) : Prop where
  len : N'.length = nt + js.length
  fr : ∀ i j, js[i]? = some j → ∃ y, N'[nt + i]? = some y ∧ N[j]? = some y ∧ sc.names.lookup y = some .free ∧ (osc.names.lookup y = some .cell ∨ osc.names.lookup y = some .free)
theorem GxN.none {N : List Str} {osc sc : Scope} {N' : List Str} : GxN N osc sc N' N'.length [] := ⟨by simp, fun i j h => by simp at h⟩
def gst (nt : Nat) (js : List Nat) (σ : L2.St) : L2.St := List.replicate nt Option.none ++ js.map fun j => (σ[j]?).join
abbrev geOf (X : Cx) (sc : Scope) (C : Addr) (code : Value) : Env := genEnv sc (cloFrom X.env.cells sc.names []) C code builtinsNs X.env
theorem inv_gx {X : Cx} {pins : List (Addr × Obj)} {σ : L2.St} {H : Hp} {sc s2 : Shared} {A : Around} {scope : Scope} {C : Addr} {code : Value} {N' : List Str} {nt : Nat} {js : List Nat} {fp : List Addr} {pn cp : List (Addr × Obj)} {m0 : Str → Option Value}
    (J : Inv X pins σ H sc) (gs : GxS X.env.scope scope) (gn : GxN X.N X.env.scope scope N' nt js) (hA : A.handled = Option.none) (hfr : A.frames = some X.stack) (hC : sc.heap.objs.size ≤ C) (hfp : ∀ b ∈ fp, FpOk X pins H b ∧ b < sc.heap.objs.size)
    (kept : ∀ b o, sc.heap.get? b = some o → s2.heap.get? b = some o) (ns : s2.heap.Ns C m0) (os : s2.os = sc.os) (bare : AllBare s2.gens) (hpn : ∀ p ∈ pn ++ cp, s2.heap.get? p.1 = some p.2 ∧ C < p.1 ∧ ∀ v, p.2.data ≠ .cell v) :
    Inv (gxC X A (geOf X scope C code) N' sc H fp pn) cp (gst nt js σ) H s2 := by
  have hfree : ∀ y ∈ scope.names, y.2 = .free → ∃ c, X.env.cells.lookup y.1 = some c := fun y hy e => J.ok.has _ (gs.free y hy e)
  have cm : ∀ {y c}, (geOf X scope C code).cells.lookup y = some c → X.env.cells.lookup y = some c := fun {y c} hm => by
    have hm : (cloFrom X.env.cells scope.names []).lookup y = some c := hm
    rcases cloFrom_mem (PySem.mem_of_lookup hm) with hm | ⟨h1, rfl⟩
    · cases hm
    · obtain ⟨c, hc⟩ := hfree _ h1 rfl
      have hc : X.env.cells.lookup y = some c := hc
      rw [hc]; rfl
  have look : ∀ {y}, scope.names.lookup y = some .free → ∃ c, (geOf X scope C code).cells.lookup y = some c ∧ X.env.cells.lookup y = some c := fun {y} hl => by
    obtain ⟨c', e'⟩ := mem_lookup (cloFrom_has (cells := X.env.cells) (acc := []) (PySem.mem_of_lookup hl))
    exact ⟨c', e', cm e'⟩
  have clt : ∀ {y c}, X.env.cells.lookup y = some c → c < sc.heap.objs.size := fun {y c} e => by
    obtain ⟨v, q⟩ := J.cell y c e
    exact q.lt
  refine ⟨⟨J.ok.mod, gs.kind, J.ok.glob, rfl, hC, fun y z c e1 e2 => J.ok.inj y z c (cm e1) (cm e2), fun y hy => ?_, fun y c hq _ => ?_, fun _ => hA, Around.frames_deeper hfr, .inr ⟨rfl, rfl⟩, fun b hb => ⟨?_, fun y c e z => ?_⟩, J.bs, Nat.le_trans J.ok.bsz J.sz, fun b o e hb => ?_, fun b hb z => ?_, J.stack, J.stkFree⟩,
    os, bare, Un.kept kept, ⟨m0, ns, fun i y v h1 h2 h3 => ?_⟩, fun y c e => ?_, J.hok.fresh hC, fun y c e => J.freeC y c (cm e), fun p hp => ?_, J.hok.kept kept, ?_⟩
  · rcases hy with hy | hy
    · exact absurd rfl (gs.cell _ (PySem.mem_of_lookup hy))
    · obtain ⟨c, h1, _⟩ := look hy
      exact ⟨c, h1⟩
  · cases hq
  · exact Nat.ne_of_lt (Nat.lt_of_lt_of_le (hfp b hb).2 hC)
  · exact (hfp b hb).1.2.2.2.2.1 y c (cm e) z
  · obtain ⟨_, _, _, h4, _⟩ := (hfp b hb).1
    rcases h4 with h4 | h4
    · exact J.ok.noex b o e h4
    · exact absurd (Nat.lt_of_lt_of_le (Heap.lt_size e) (Nat.le_trans J.ok.bsz h4)) (Nat.lt_irrefl _)
  · obtain ⟨_, h2, h3, _⟩ := (hfp b hb).1
    rcases List.mem_cons.mp (J.stkSub b z) with q | q
    · exact h2 q
    · exact h3 q
  · have h2 : (gst nt js σ)[i]? = some (some v) := h2
    unfold gst at h2
    by_cases hi : i < nt
    · rw [List.getElem?_append_left (by simpa using hi), List.getElem?_replicate] at h2
      rw [if_pos hi] at h2; cases h2
    · rw [List.getElem?_append_right (by simpa using hi), List.getElem?_map, List.length_replicate] at h2
      cases hj : js[i - nt]? with
      | none => rw [hj] at h2; cases h2
      | some j =>
        rw [hj] at h2
        have hv : (σ[j]?).join = some v := by simpa using h2
        obtain ⟨y', e1, e2, e3, e4⟩ := gn.fr _ _ hj
        have ei : nt + (i - nt) = i := by omega
        rw [ei] at e1
        have h1 : N'[i]? = some y := h1
        rw [h1] at e1; cases e1
        have hs : σ[j]? = some (some v) := by
          cases q : σ[j]? with
          | none => rw [q] at hv; cases hv
          | some o => rw [q] at hv; cases o with
            | none => cases hv
            | some w => cases hv; rfl
        obtain ⟨m, hm, hlk⟩ := J.loc
        have vis : Vis X.env.scope y := by
          rcases e4 with q | q
          · exact .inr (.inl q)
          · exact .inr (.inr q)
        obtain ⟨u, ru, hL⟩ := hlk j y v e2 hs vis
        refine ⟨u, ru, .inr ⟨.inr e3, ?_⟩⟩
        obtain ⟨c, c1, c2⟩ := look e3
        rcases hL with ⟨q, _⟩ | ⟨_, c', c3, c4⟩
        · have q : X.env.scope.names.lookup y = some .local := q
          rcases e4 with z | z <;> (rw [z] at q; cases q)
        · rw [c2] at c3; cases c3
          exact ⟨c, c1, c4.keeps kept⟩
  · obtain ⟨v, q⟩ := J.cell y c (cm e)
    exact ⟨v, q.keeps kept⟩
  · obtain ⟨h1, h2, h3⟩ := hpn p hp
    have h2' : sc.heap.objs.size ≤ p.1 := Nat.le_trans hC (Nat.le_of_lt h2)
    refine ⟨h1, J.hok.fresh h2', Nat.ne_of_gt h2, fun z => ?_, h3⟩
    have z : p.1 ∈ frs X.stack := z
    rcases List.mem_cons.mp (J.stkSub _ z) with q | q
    · have := J.lt; rw [q] at h2'; exact absurd (Nat.lt_of_lt_of_le this h2') (Nat.lt_irrefl _)
    · exact J.nofs h2' q
  · show (gst nt js σ).length = N'.length
    rw [gn.len]; unfold gst; simp
end Kk

set_option maxHeartbeats 1000000
namespace Kk
open PySem PySem.Spec PyProof.Rows L2 GenW
theorem over_gx {A : Around} {elt tg iter : Expr} {ifs : List Expr} {scope : Scope} {pos : Pos} {it acc : Value} {env : Env} : A.over (.compLoop (.GeneratorExp elt [⟨tg, iter, ifs, 0⟩] scope pos) 0 it acc env) [] = A.deeper env := by
  first
    | rfl
    | (obtain ⟨hd, d, fr, gs, u⟩ := A; simp [Around.over, Around.deeper, marksOver, frameCount, unitsOf, envsOf, guardsOf, pushEnvs, pushGuards, Code.envs, Code.env?, Code.isFrame, Code.guards, Code.isGuard, Code.weight, Code.frames, Code.isCreation, Code.isCaller, Code.cUnits])
section
variable {prog : Program} {w : World} {A : Around} {R : GenEnd} {Y : Protocol} {n : Nat} {s₀ s : Shared} {tg elt iter : Expr} {ifs : List Expr} {scope : Scope} {pos : Pos} {it : Addr} {env : Env}
theorem seg_gxStart (loop : Seg (model prog w) A R Y n s₀ (.compLoop (.GeneratorExp elt [⟨tg, iter, ifs, 0⟩] scope pos) 0 (.ref it) .none env) ((model prog w).den (.compLoop (.GeneratorExp elt [⟨tg, iter, ifs, 0⟩] scope pos) 0 (.ref it) .none env)) [] s)
    (self : ∀ (A : Around) (Q : Value → Shared → Prop) (E : Value → Shared → Prop), Q (.ref it) s → wpAny (model prog w) A (pyIter (.ref it)) Q E s) :
    Seg (model prog w) A R Y n s₀ (.compStart (.GeneratorExp elt [⟨tg, iter, ifs, 0⟩] scope pos) 0 (.ref it) .none env) ((model prog w).den (.compStart (.GeneratorExp elt [⟨tg, iter, ifs, 0⟩] scope pos) 0 (.ref it) .none env)) [] s := by
  show Seg _ A _ _ _ s₀ _ ((compStart (.GeneratorExp elt [⟨tg, iter, ifs, 0⟩] scope pos) 0 (.ref it) .none env).onRaise (leaving env)) [] s
  unfold compStart
  rw [Sem.onRaise_eq_wrap]
  show Seg _ A _ _ _ s₀ _ ((ask >>= _).wrap _ _ _ _) [] s
  refine seg_bind_wrap (wpAny_askSetting ?_)
  split
  · exact seg_again rfl loop
  · first
      | exact seg_bind_wrap (wpAny_rule (seg_bind_wrap (wpAny_standAt (seg_bind_wrap (self _ _ _ (seg_again rfl loop))))))
      | (refine seg_bind_wrap (wpAny_rule ?_); show Seg _ A _ _ _ s₀ _ ((standAt iter.pos >>= _).wrap _ _ _ _) [] s; exact seg_bind_wrap (wpAny_standAt (seg_bind_wrap (self _ _ _ (seg_again rfl loop)))))
end
/-- a generator that has not begun -/
def GxMade (X : Cx) (pins : List (Addr × Obj)) (σ : L2.St) (k : Nat) (Q : List V → Hp → Prop) (Yd : List V → V → Hp → Prop → Prop) (u : Value) (s5 : Shared) : Prop :=
  ∃ (a : Addr) (g : Nat) (c : Code) (H1 : Hp) (sc : Shared) (fp : List Addr), u = .ref a ∧ Inv X pins σ H1 sc ∧ ExOk X pins fp ∧ sc.heap.objs.size ≤ a ∧ a < s5.heap.objs.size ∧ s5.heap.IsGen a g ∧ s5.gens[g]? = some (.fresh c) ∧ s5.os = sc.os ∧ AllBare s5.gens ∧ s5.heap.NoLimit ∧
    (∀ b o, sc.heap.get? b = some o → s5.heap.get? b = some o) ∧
    ∀ (A : Around) (cn : Cons) (cp : List (Addr × Obj)) (s2 : Shared), Room k A → A.frames = some X.stack → (∀ b ∈ cn.cs, s5.heap.objs.size ≤ b) → (∀ b o, s5.heap.get? b = some o → s2.heap.get? b = some o) → cn.cr [] cp → (∀ p ∈ cp, s2.heap.get? p.1 = some p.2) →
      s2.os = sc.os → AllBare s2.gens →
      Seg (model X.prog X.w) A (fun n s₀ r s1 => r = .ok .next ∧ LEnd X.prog X.w X.stack fp H1 sc cn Q n s₀ s1) (LItem X.prog X.w X.stack fp H1 sc cn Yd a g) sizeLine s2 c ((model X.prog X.w).den c) [] s2
/-- the reading of a generator expression -/
def tGx (P : Addr) (wi : TI) (g : TG) (tt : TT) (te : TE) (nt : Nat) (js : List Nat) : L2.St → Hp → (List V → Hp → Prop) → (List V → V → Hp → Prop → Prop) → Prop := fun σ H Q Yd =>
  wi σ H fun J H1 => GxR.TabG H1 P ∧ ∀ H2, GxR.Tabbed P H1 H2 → ∃ W : Nat → Nat → List V → Hp → Prop, (∃ m, W 0 m [] H2) ∧ GxTurn J g tt te (gst nt js σ) Q Yd W
section
variable {X : Cx} {pins : List (Addr × Obj)} {σ : L2.St} {H : Hp} {s : Shared}
theorem gx_make {c P : Addr} {tg elt iter : Expr} {ifs : List Expr} {gp : Pos} {scope : Scope} {wi : TI} {g : TG} {tt : TT} {te : TE} {k : Nat} {N' : List Str} {nt : Nat} {js : List Nat} {Q : List V → Hp → Prop} {Yd : List V → V → Hp → Prop → Prop}
    (room : Room (k + 1) X.A) (tab : GxR.TabB X.base X.mg c P) (code : X.env.code = .ref c) (gs : GxS X.env.scope scope) (gn : GxN X.N X.env.scope scope N' nt js) (pit : PI X tg iter wi)
    (pg : ∀ (A : Around) (C : Addr) (cv : Value) (s : Shared) (H : Hp) (fp : List Addr) (pn : List (Addr × Obj)), Room k (A.deeper (geOf X scope C cv)) → PG (gxC X A (geOf X scope C cv) N' s H fp pn) tg g)
    (pt : ∀ (A : Around) (C : Addr) (cv : Value) (s : Shared) (H : Hp) (fp : List Addr) (pn : List (Addr × Obj)), Room k (A.deeper (geOf X scope C cv)) → PTs (gxC X A (geOf X scope C cv) N' s H fp pn) ifs tt)
    (pe : ∀ (A : Around) (C : Addr) (cv : Value) (s : Shared) (H : Hp) (fp : List Addr) (pn : List (Addr × Obj)), Room k (A.deeper (geOf X scope C cv)) → PE (gxC X A (geOf X scope C cv) N' s H fp pn) elt te)
    (fold : ∀ v, genFold iter X.env v = pure v) (I : Inv X pins σ H s) (want : tGx P wi g tt te nt js σ H Q Yd) :
    wpAny (model X.prog X.w) X.A (eval (.GeneratorExp elt [⟨tg, iter, ifs, 0⟩] scope gp) X.env) (GxMade X pins σ (k + 1) Q Yd) X.xe s := by
  have deep : X.A.depth < recursionLimit := by have q := room.dp; omega
  have hfree : ∀ y ∈ scope.names, y.2 = .free → ∃ c, X.env.cells.lookup y.1 = some c := fun y hy e => I.ok.has _ (gs.free y hy e)
  refine wpAny_GeneratorExp_make gs.co (closure_ok hfree) gs.cell gs.dot gs.kind deep ?_ fold
  refine thn (pit.run pins s σ H _ I want) fun xv z h1 => thn h1 fun itv z2 h2 => ?_
  obtain ⟨it, fp, tn, J, H2, rfl, I2, T, st2, f2, ⟨rows, isT, trip⟩, rest⟩ := h2
  have atP : z2.heap.get? P = some { cls := .none, data := .fields rows } := I2.hok P _ isT
  have ltP : P < z2.heap.objs.size := Heap.lt_size atP
  have chd : PySem.W.CodeHd z2.heap c P := tab.code.keeps fun b u q => I2.bk b u q
  have flt : ∀ b ∈ fp, b < z2.heap.objs.size := fun b hb => by
    obtain ⟨o, e, _⟩ := T.obj _ _ st2 b hb
    exact Heap.lt_size e
  have fnP : ∀ b ∈ fp, b ≠ P := fun b hb q => by
    have := (f2 b hb).1
    rw [q, isT] at this; cases this
  refine ⟨I2.nolimit, ?_⟩
  have go : ∀ (cv : Value) (h3 : Heap) (tk : Nat) (rows' : Array Value), Heap.ExtBut P z2.heap h3 → z2.heap.objs.size ≤ h3.objs.size →
      h3.get? P = some { cls := .none, data := .fields rows' } → (∃ more, rows' = rows ++ more) → TriplesOk rows'.toList →
      wpAny (model X.prog X.w) X.A (builtinsFor X.env.globals X.env.builtins) (fun bi s₄ =>
        ∀ h', h'.Ns s₄.heap.objs.size (fun y => if y = ".0" then some (.ref it) else none) → Heap.SameBut s₄.heap.objs.size (s₄.heap.push { cls := .type "frame", data := .dict #[] }) h' →
          GxMade X pins σ (k + 1) Q Yd (.ref h'.objs.size) { s₄ with
            gens := s₄.gens.push (.fresh (.compStart (.GeneratorExp elt [⟨tg, iter, ifs, 0⟩] scope gp) 0 (.ref it) .none (genEnv scope (cloFrom X.env.cells scope.names []) s₄.heap.objs.size cv bi X.env))),
            toks := s₄.toks + 1 + 1 + 1,
            heap := h'.push { cls := .type "generator", data := .fields #[.int s₄.gens.size 0, .str "<genexpr>" (s₄.toks + 1), .str (X.env.qual ++ "<genexpr>") (s₄.toks + 1 + 1)] } }) X.xe { z2 with heap := h3, toks := tk } := by
    intro cv h3 tk rows' ext le3 at3 grown trip3
    obtain ⟨bm, ob, b1, b2, b3, b4, b5, b6, b7, b8⟩ := tab.bm
    obtain ⟨more, em⟩ := grown
    have kp3 : ∀ b u, b ≠ P → z2.heap.get? b = some u → h3.get? b = some u := fun b u nb q => ext b u nb q
    have J3 := GxR.inv_tab (more := more) (h' := h3) (g' := z2.gens) (d' := z2.drawn) (t' := tk) I2 isT kp3 (by rw [← em]; exact at3) I2.bare
    generalize hH3 : upd H2 P (.tbl (rows ++ more)) = H3 at J3
    have tabd : GxR.Tabbed P H2 H3 := by
      rw [← hH3]
      exact ⟨⟨rows ++ more, upd_same, by rw [← em]; exact trip3⟩, fun b nb => upd_ne nb⟩
    obtain ⟨W, ⟨m0, w0⟩, turn⟩ := rest H3 tabd
    refine wpAny_builtinsFor (m := X.mg) (by rw [J3.ok.glob]; exact J3.mod.glob.keeps J3.bk) b1 b2 (kp3 _ _ b4 (I2.bk _ _ b5)) b6 b7 b8 ?_
    intro h' hn' hs'
    generalize hsc : ({ z2 with heap := h3, toks := tk } : Shared) = sc at J3 hn' hs' ⊢
    have sch : sc.heap = h3 := by rw [← hsc]
    have st3 : tn 0 sc.heap := T.keep _ _ _ st2 fun b hb o e => by rw [sch]; exact kp3 b o (fnP b hb) e
    have f3 : ∀ b ∈ fp, FpOk X pins H3 b ∧ b < sc.heap.objs.size := fun b hb => by
      refine ⟨⟨?_, (f2 b hb).2⟩, by rw [sch]; exact Nat.lt_of_lt_of_le (flt b hb) le3⟩
      rw [tabd.2 b (fnP b hb)]
      exact (f2 b hb).1
    have hsz : h'.objs.size = sc.heap.objs.size + 1 := by rw [hs'.1, Heap.size_push]
    have keep' : ∀ b o, sc.heap.get? b = some o → h'.get? b = some o := fun b o e => hs'.extBut b o (Nat.ne_of_lt (Heap.lt_size e)) (Heap.get?_push_of_some _ e)
    generalize hgo : ({ cls := .type "generator", data := .fields #[.int sc.gens.size 0, .str "<genexpr>" (sc.toks + 1), .str (X.env.qual ++ "<genexpr>") (sc.toks + 1 + 1)] } : Obj) = go
    have gofr : go.isFreed = false := by rw [← hgo]; rfl
    have keep5 : ∀ b o, sc.heap.get? b = some o → (h'.push go).get? b = some o := fun b o e => Heap.get?_push_of_some _ (keep' b o e)
    have hpushed : (h'.push go).get? h'.objs.size = some go := Heap.get?_push_size _ gofr
    have hgen : ∀ h : Heap, h.get? h'.objs.size = some go → h.IsGen h'.objs.size sc.gens.size := fun h e => ⟨go, _, _, e, by rw [← hgo], by rw [← hgo], by rw [← hgo]⟩
    have bare5 : AllBare (sc.gens.push (.fresh (.compStart (.GeneratorExp elt [⟨tg, iter, ifs, 0⟩] scope gp) 0 (.ref it) .none (geOf X scope sc.heap.objs.size cv)))) := AllBare.push J3.bare rfl
    refine ⟨h'.objs.size, sc.gens.size, _, H3, sc, fp, rfl, J3, fun b hb => ⟨(f3 b hb).1.2.2.2.1, (f3 b hb).1.2.1, (f3 b hb).1.2.2.2.2.1, (f3 b hb).1.2.2.2.2.2⟩, by omega, ?_, hgen _ hpushed, Array.getElem?_push_size .., rfl, bare5, J3.nolimit.keeps keep5, keep5, ?_⟩
    · show _ < (h'.push go).objs.size
      rw [Heap.size_push]; exact Nat.lt_succ_self _
    intro A cn cp s2 hr hfr hcs hk2 hcr hcp hos hba
    have kept : ∀ b o, sc.heap.get? b = some o → s2.heap.get? b = some o := fun b o e => hk2 b o (keep5 b o e)
    have ns2 : s2.heap.Ns sc.heap.objs.size (fun y => if y = ".0" then some (.ref it) else none) := by
      refine (hn'.push go).at' fun o e => hk2 _ o e
    have hea : s2.heap.get? h'.objs.size = some go := hk2 _ go hpushed
    have csz : ∀ b ∈ cn.cs, h'.objs.size < b := fun b hb => by
      have q := hcs b hb
      have q : (h'.push go).objs.size ≤ b := q
      rw [Heap.size_push] at q; exact q
    have cpa : ∀ p ∈ cp, p.1 ∈ cn.cs := fun p hp => by
      rw [← (cn.ok _ _ hcr).1]; exact List.mem_map.mpr ⟨p, hp, rfl⟩
    have IY : Inv (gxC X A (geOf X scope sc.heap.objs.size cv) N' sc H3 fp [(h'.objs.size, go)]) cp (gst nt js σ) H3 s2 := by
      refine inv_gx J3 gs gn hr.hd hfr (Nat.le_refl _) f3 kept ns2 hos hba fun p hp => ?_
      rcases List.mem_append.mp hp with q | q
      · rw [List.mem_singleton.mp q]
        exact ⟨hea, by show sc.heap.objs.size < h'.objs.size; omega, fun v q => by rw [← hgo] at q; cases q⟩
      · refine ⟨hcp p q, ?_, (cn.ok _ _ hcr).2 p q⟩
        have := csz _ (cpa p q)
        show sc.heap.objs.size < p.1
        omega
    have rk : Room k (A.deeper (geOf X scope sc.heap.objs.size cv)) := hr.deeper _
    have st5 : tn 0 s2.heap := T.keep _ _ _ st3 fun b hb o e => kept b o e
    refine seg_gxStart ?_ fun A' Q' E' h => T.self A' 0 s2 Q' E' st5 h
    refine seg_gx (Y := gxC X A (geOf X scope sc.heap.objs.size cv) N' sc H3 fp [(h'.objs.size, go)]) gs.co rfl over_gx rfl T (fun b hb => hb) (fun b hb hc => ?_) (fun p hp hc => ?_) (fun p hp hc => ?_) (fun b hb => ⟨?_, fun x q e z => ?_⟩) (fun h hh => hgen h (hh _ (List.mem_singleton.mpr rfl)))
      (pg A _ cv sc H3 fp _ rk) (pt A _ cv sc H3 fp _ rk) (pe A _ cv sc H3 fp _ rk) turn IY.len m0 0 sizeLine [] cp H3 s2 s2 w0 rfl hcr IY st5 fun b hb => (f3 b hb).1.1
    · have h1 : h'.objs.size < b := csz b hc
      have h2 : b < sc.heap.objs.size := (f3 b hb).2
      exact absurd (Nat.lt_trans h1 h2) (by rw [hsz]; exact Nat.not_lt.mpr (Nat.le_succ _))
    · rw [List.mem_singleton.mp hp] at hc
      exact Nat.lt_irrefl _ (csz _ hc)
    · rw [List.mem_singleton.mp hp] at hc
      have := (f3 _ hc).2
      have : h'.objs.size < sc.heap.objs.size := this
      omega
    · have := csz b hb
      show sc.heap.objs.size ≤ b
      omega
    · obtain ⟨v, q2⟩ := IY.cell x q e
      obtain ⟨v3, q3⟩ : ∃ v, sc.heap.IsCell q v := by
        have e : (cloFrom X.env.cells scope.names []).lookup x = some q := e
        rcases cloFrom_mem (PySem.mem_of_lookup e) with hm | ⟨h1, h2⟩
        · cases hm
        · obtain ⟨c9, hc9⟩ := hfree _ h1 rfl
          have hc9 : X.env.cells.lookup x = some c9 := hc9
          rw [hc9] at h2
          rw [show q = c9 from h2]
          exact J3.cell x c9 hc9
      have h1 : q < sc.heap.objs.size := q3.lt
      have h2 : h'.objs.size < b := csz b hb
      rw [z] at h1
      exact absurd (Nat.lt_trans h2 h1) (by rw [hsz]; exact Nat.not_lt.mpr (Nat.le_succ _))
  cases am : codeAmong gp rows.toList with
  | none =>
    refine wpAny_genexprCodeX code (chd.code atP trip) (chd.tab atP) am fun c' h' tk hx hge hlt hco _ htab _ => ?_
    obtain ⟨o1, vs, f1, tf, fl, tg', inF, tx, tt', op, _, _, _, _, _, _, _, _, _, htr, _⟩ := hco
    exact go _ h' tk _ hx (Nat.le_trans hge (Nat.le_of_lt hlt)) htab.2 ⟨_, rfl⟩ htr
  | some cv =>
    refine wpAny_genexprCode_hit code (chd.code atP trip) am ?_
    exact go cv z2.heap z2.toks rows (Heap.ExtBut.refl _ _) (Nat.le_refl _) atP ⟨#[], by simp⟩ trip
end
end Kk

set_option maxHeartbeats 1000000
namespace Kk
open PySem PySem.Spec PyProof.Rows L2 GenW
section
variable {P : Program} {w : World} {outer : List Env} {ex : List Addr} {H : Hp} {sc : Shared} {cn : Cons} {Q : List V → Hp → Prop} {Yd : List V → V → Hp → Prop → Prop} {A : Around} {a : Addr} {g : Nat}
/-- the generator, ready to be woken, for m items at most -/
structure Wk (P : Program) (w : World) (outer : List Env) (ex : List Addr) (H : Hp) (sc : Shared) (cn : Cons) (Q : List V → Hp → Prop) (Yd : List V → V → Hp → Prop → Prop) (A : Around) (a : Addr) (g : Nat) (m : Nat) (s : Shared) : Prop where
  gen : s.heap.IsGen a g
  lim : s.heap.NoLimit
  goes : ∃ gs, s.gens[g]? = some gs ∧ gs.Goes (model P w) A.in1 (fun n s₀ r s1 => r = .ok .next ∧ LEnd P w outer ex H sc cn Q n s₀ s1) (LItem P w outer ex H sc cn Yd a g) m (.send .none) (s.setGen g .running)
theorem gx_next {m : Nat} {s : Shared} {Qn : Option Value → Shared → Prop} {E : Value → Shared → Prop} (hh : A.handled = none) (hd : A.depth < recursionLimit) (hac : a ∉ cn.cs) (hcc : cStatics ∉ cn.cs) (K : Wk P w outer ex H sc cn Q Yd A a g m s)
    (hitem : ∀ v s1 ys x cp H' nx, RelV x v → Out P w outer ex H H' sc s1 → cn.cr ys cp → (∀ p ∈ cp, s1.heap.get? p.1 = some p.2 ∧ H' p.1 = none) → ys.length < sizeLine → Yd ys x H' nx →
      (nx → ∀ s' cp', s'.gens = s1.gens → cn.cr (ys ++ [x]) cp' → Slp cn.cs cp' s1 s' → ∃ m', m = m' + 1 ∧ Wk P w outer ex H sc cn Q Yd A a g m' s') → Qn (some v) s1)
    (hend : ∀ s1, LEnd P w outer ex H sc cn Q m s s1 → Qn none s1) : wpAny (model P w) A (pyNext (.ref a)) Qn E s := by
  obtain ⟨hg, hl, gs, hgs, hgo⟩ := K
  have hgl : g < s.gens.size := (Array.getElem?_eq_some_iff.mp hgs).1
  refine wpAny_gsz (n := g + 1) hgl (wpAny_pyNext_genexpQ (P := fun n s₀ s1 => LEnd P w outer ex H sc cn Q n s₀ s1) hh hl hd hg hgs hgo (fun v s₁ gs' hbare hv hsz => ?_) fun s₁ hp h' hk hsz => ?_)
  · obtain ⟨ys, x, cp, H', nx, rv, out, lim1, gen1, hcr, hcp, hn, hy, hk⟩ := hv
    refine hitem v _ ys x cp H' nx rv ⟨out.os, allBare_setGen out.bare hbare, out.un, out.hok⟩ hcr hcp (by omega) hy fun hnx s' cp' hgens hcr' z => ?_
    have z2 : Slp cn.cs cp' s₁ (s'.setGen g .running) := ⟨z.os, allBare_setGen z.bare rfl, z.keep, z.own⟩
    have hk2 := hk hnx _ cp' hcr' z2
    cases m with
    | zero => exact False.elim hk2
    | succ m =>
      refine ⟨m, rfl, ?_, ?_, gs', ?_, hk2⟩
      · obtain ⟨o, nm, qn, ho, r⟩ := gen1
        exact ⟨o, nm, qn, z.keep a o hac ho, r⟩
      · obtain ⟨mc, hns, hnn⟩ := lim1
        exact ⟨mc, hns.at' fun o e => z.keep _ o hcc e, hnn⟩
      · rw [hgens]
        have q : (s₁.setGen g gs').gens.size = s₁.gens.size := setGen_size _ _ _
        have hsz' : g + 1 ≤ (s₁.setGen g gs').gens.size := hsz
        exact setGen_at (by omega)
  · obtain ⟨H', ys, cp, out, hcr, hcp, hle, hq⟩ := hp
    exact hend _ ⟨H', ys, cp, ⟨out.os, allBare_setGen out.bare rfl, out.un.trans (Un.kept hk), out.hok.kept hk⟩, hcr, fun p hp => ⟨hk _ _ (hcp p hp).1, (hcp p hp).2⟩, hle, hq⟩
end
/-- a consumer that keeps nothing -/
def c0 : Cons := ⟨[], fun _ cp => cp = [], fun ys cp h => by subst h; exact ⟨rfl, fun p hp => by cases hp⟩⟩
theorem Slp.refl {s : Shared} (h : AllBare s.gens) : Slp [] [] s s := ⟨rfl, h, fun _ _ _ e => e, fun p hp => by cases hp⟩
section
variable {P : Program} {w : World} {outer : List Env} {ex : List Addr} {H : Hp} {sc : Shared} {Q : Hp → Prop} {QF : Hp → Prop} {A : Around} {a : Addr} {g : Nat} {R : Result → Shared → Prop}
/-- all: the end by True, at a False the end -/
def ydAll (QF : Hp → Prop) : List V → V → Hp → Prop → Prop := fun _ y H nx => ∃ b, y = .bl b ∧ if b = true then nx else QF H
def ydAny (QT : Hp → Prop) : List V → V → Hp → Prop → Prop := fun _ y H nx => ∃ b, y = .bl b ∧ if b = true then QT H else nx
theorem gx_all (hh : A.handled = none) (hd : A.depth < recursionLimit) (hT : ∀ s' H', Out P w outer ex H H' sc s' → Q H' → R (.ok (.ret (.bool true))) s') (hF : ∀ s' H', Out P w outer ex H H' sc s' → QF H' → R (.ok (.ret (.bool false))) s') :
    ∀ (m : Nat) (s : Shared), Wk P w outer ex H sc c0 (fun _ => Q) (ydAll QF) A.in1 a g m s → codeAny (model P w) A (.builtin "all.loop" ⟨[.ref a], []⟩) R s := by
  intro m
  induction m with
  | zero =>
    intro s K
    refine codeAny_builtin F.entry_all_loop ?_
    rw [Around.under_plainId F.plain_all_loop _]
    show wpAny _ A.in1 (pyNext (.ref a) >>= _) _ _ s
    refine wpAny_bind (gx_next (A := A.in1) hh hd (by simp [c0]) (by simp [c0]) K (fun v s1 ys x cp H' nx rv out hcr hcp hlt hy hk => ?_) fun s1 he => ?_)
    · obtain ⟨b, rfl, hb⟩ := hy
      obtain rfl : v = Value.bool b := rv
      refine wpAny_bind (wpAny_holding (wpAny_truthy_bool ?_))
      refine wpAny_bind (wpAny_letGo ?_)
      cases b with
      | true =>
        obtain ⟨m', e, _⟩ := hk hb s1 [] rfl rfl (Slp.refl out.bare)
        cases e
      | false =>
        simp only [Bool.false_eq_true, if_false] at hb ⊢
        exact wpAny_bind (wpAny_rule (wpAny_pure (hF s1 H' out hb)))
    · obtain ⟨H', ys, cp, out, _, _, _, hq⟩ := he
      exact wpAny_bind (wpAny_rule (wpAny_pure (hT s1 H' out hq)))
  | succ m ih =>
    intro s K
    refine codeAny_builtin F.entry_all_loop ?_
    rw [Around.under_plainId F.plain_all_loop _]
    show wpAny _ A.in1 (pyNext (.ref a) >>= _) _ _ s
    refine wpAny_bind (gx_next (A := A.in1) hh hd (by simp [c0]) (by simp [c0]) K (fun v s1 ys x cp H' nx rv out hcr hcp hlt hy hk => ?_) fun s1 he => ?_)
    · obtain ⟨b, rfl, hb⟩ := hy
      obtain rfl : v = Value.bool b := rv
      refine wpAny_bind (wpAny_holding (wpAny_truthy_bool ?_))
      refine wpAny_bind (wpAny_letGo ?_)
      cases b with
      | true =>
        simp only [if_true] at hb ⊢
        obtain ⟨m', e, K'⟩ := hk hb s1 [] rfl rfl (Slp.refl out.bare)
        cases e
        exact wpAny_pure ⟨plainId_quiet F.plain_all_loop _, ih s1 K'⟩
      | false =>
        simp only [Bool.false_eq_true, if_false] at hb ⊢
        exact wpAny_bind (wpAny_rule (wpAny_pure (hF s1 H' out hb)))
    · obtain ⟨H', ys, cp, out, _, _, _, hq⟩ := he
      exact wpAny_bind (wpAny_rule (wpAny_pure (hT s1 H' out hq)))
theorem gx_any (hh : A.handled = none) (hd : A.depth < recursionLimit) (hT : ∀ s' H', Out P w outer ex H H' sc s' → QF H' → R (.ok (.ret (.bool true))) s') (hF : ∀ s' H', Out P w outer ex H H' sc s' → Q H' → R (.ok (.ret (.bool false))) s') :
    ∀ (m : Nat) (s : Shared), Wk P w outer ex H sc c0 (fun _ => Q) (ydAny QF) A.in1 a g m s → codeAny (model P w) A (.builtin "any.loop" ⟨[.ref a], []⟩) R s := by
  intro m
  induction m with
  | zero =>
    intro s K
    refine codeAny_builtin F.entry_any_loop ?_
    rw [Around.under_plainId F.plain_any_loop _]
    show wpAny _ A.in1 (pyNext (.ref a) >>= _) _ _ s
    refine wpAny_bind (gx_next (A := A.in1) hh hd (by simp [c0]) (by simp [c0]) K (fun v s1 ys x cp H' nx rv out hcr hcp hlt hy hk => ?_) fun s1 he => ?_)
    · obtain ⟨b, rfl, hb⟩ := hy
      obtain rfl : v = Value.bool b := rv
      refine wpAny_bind (wpAny_holding (wpAny_truthy_bool ?_))
      refine wpAny_bind (wpAny_letGo ?_)
      cases b with
      | false =>
        obtain ⟨m', e, _⟩ := hk hb s1 [] rfl rfl (Slp.refl out.bare)
        cases e
      | true =>
        simp only [if_true] at hb ⊢
        exact wpAny_bind (wpAny_rule (wpAny_pure (hT s1 H' out hb)))
    · obtain ⟨H', ys, cp, out, _, _, _, hq⟩ := he
      exact wpAny_bind (wpAny_rule (wpAny_pure (hF s1 H' out hq)))
  | succ m ih =>
    intro s K
    refine codeAny_builtin F.entry_any_loop ?_
    rw [Around.under_plainId F.plain_any_loop _]
    show wpAny _ A.in1 (pyNext (.ref a) >>= _) _ _ s
    refine wpAny_bind (gx_next (A := A.in1) hh hd (by simp [c0]) (by simp [c0]) K (fun v s1 ys x cp H' nx rv out hcr hcp hlt hy hk => ?_) fun s1 he => ?_)
    · obtain ⟨b, rfl, hb⟩ := hy
      obtain rfl : v = Value.bool b := rv
      refine wpAny_bind (wpAny_holding (wpAny_truthy_bool ?_))
      refine wpAny_bind (wpAny_letGo ?_)
      cases b with
      | false =>
        simp only [Bool.false_eq_true, if_false] at hb ⊢
        obtain ⟨m', e, K'⟩ := hk hb s1 [] rfl rfl (Slp.refl out.bare)
        cases e
        exact wpAny_pure ⟨plainId_quiet F.plain_any_loop _, ih s1 K'⟩
      | true =>
        simp only [if_true] at hb ⊢
        exact wpAny_bind (wpAny_rule (wpAny_pure (hT s1 H' out hb)))
    · obtain ⟨H', ys, cp, out, _, _, _, hq⟩ := he
      exact wpAny_bind (wpAny_rule (wpAny_pure (hF s1 H' out hq)))
end
end Kk

set_option maxHeartbeats 1000000
namespace Kk
open PySem PySem.Spec PyProof.Rows L2 GenW
/-- a consumer that fills the list at S -/
def cL (S : Addr) : Cons := ⟨[S], fun ys cp => ∃ (acc : Array Value) (c : Nat), cp = [(S, lstObj acc c)] ∧ Vals ys acc.toList, fun ys cp h => by
  obtain ⟨acc, c, rfl, _⟩ := h
  exact ⟨rfl, fun p hp v q => by rw [List.mem_singleton.mp hp] at q; cases q⟩⟩
def ydOn : List V → V → Hp → Prop → Prop := fun _ _ _ nx => nx
section
variable {P : Program} {w : World} {outer : List Env} {ex : List Addr} {H : Hp} {sc : Shared} {Q : List V → Hp → Prop} {A : Around} {a S : Addr} {g : Nat} {R : Result → Shared → Prop} {res : Value}
theorem gx_extend (hh : A.handled = none) (hd : A.depth < recursionLimit) (hSa : S ≠ a) (hSc : S ≠ cStatics)
    (hend : ∀ s' acc c H' ys, Out P w outer ex H H' sc s' → s'.heap.get? S = some (lstObj acc c) → H' S = none → Vals ys acc.toList → ys.length ≤ sizeLine → Q ys H' → R (.ok (.ret res)) s') :
    ∀ (m : Nat) (s : Shared), Wk P w outer ex H sc (cL S) Q ydOn A.in1 a g m s → codeAny (model P w) A (.builtin "list.extend.loop" ⟨[.ref S, .ref a, res], []⟩) R s := by
  have hac : a ∉ (cL S).cs := fun h => hSa (List.mem_singleton.mp h).symm
  have hcc : cStatics ∉ (cL S).cs := fun h => hSc (List.mem_singleton.mp h).symm
  intro m
  induction m with
  | zero =>
    intro s K
    refine codeAny_builtin F.entry_extend_loop ?_
    rw [Around.under_plainId F.plain_extend_loop _]
    show wpAny _ A.in1 (pyNext (.ref a) >>= _) _ _ s
    refine wpAny_bind (gx_next (A := A.in1) hh hd hac hcc K (fun v s1 ys x cp H' nx rv out hcr hcp hlt hy hk => ?_) fun s1 he => ?_)
    · obtain ⟨acc, c, rfl, hv⟩ := hcr
      have hS : s1.heap.get? S = some (lstObj acc c) := (hcp _ (List.mem_singleton.mpr rfl)).1
      obtain ⟨m', e, _⟩ := hk hy { s1 with heap := s1.heap.update S (Obj.mapSeq (·.push v)) } [(S, lstObj (acc.push v) _)] rfl ⟨_, _, rfl, by rw [Array.toList_push]; exact hv.append (.cons rv .nil)⟩
        ⟨rfl, out.bare, fun b o hb e => (Heap.get?_update_other _ _ (fun z => hb (List.mem_singleton.mpr z.symm))).trans e, fun p hp => by rw [List.mem_singleton.mp hp]; exact Heap.get?_update_self _ hS rfl⟩
      cases e
    · obtain ⟨H', ys, cp, out, hcr, hcp, hle, hq⟩ := he
      obtain ⟨acc, c, rfl, hv⟩ := hcr
      obtain ⟨q1, q2⟩ := hcp _ (List.mem_singleton.mpr rfl)
      exact wpAny_pure (hend s1 acc c H' ys out q1 q2 hv hle hq)
  | succ m ih =>
    intro s K
    refine codeAny_builtin F.entry_extend_loop ?_
    rw [Around.under_plainId F.plain_extend_loop _]
    show wpAny _ A.in1 (pyNext (.ref a) >>= _) _ _ s
    refine wpAny_bind (gx_next (A := A.in1) hh hd hac hcc K (fun v s1 ys x cp H' nx rv out hcr hcp hlt hy hk => ?_) fun s1 he => ?_)
    · obtain ⟨acc, c, rfl, hv⟩ := hcr
      have hS : s1.heap.get? S = some (lstObj acc c) := (hcp _ (List.mem_singleton.mpr rfl)).1
      have hasz : acc.size = ys.length := by
        have e1 := hv.length
        have e2 : acc.toList.length = acc.size := by simp
        omega
      show wpAny _ A.in1 (updateSeq S (·.push v) >>= _) _ _ _
      refine wpAny_bind ?_
      refine wpAny_updateSeq hS rfl (wpAny_pure ⟨plainId_quiet F.plain_extend_loop _, ?_⟩) (by show acc.size ≤ sizeLine; omega) (by show (acc.push v).size ≤ sizeLine + 1; rw [Array.size_push]; omega)
      obtain ⟨m', e, K'⟩ := hk hy { s1 with heap := s1.heap.update S (Obj.mapSeq (·.push v)) } [(S, lstObj (acc.push v) _)] rfl ⟨_, _, rfl, by rw [Array.toList_push]; exact hv.append (.cons rv .nil)⟩
        ⟨rfl, out.bare, fun b o hb e => (Heap.get?_update_other _ _ (fun z => hb (List.mem_singleton.mpr z.symm))).trans e, fun p hp => by rw [List.mem_singleton.mp hp]; exact Heap.get?_update_self _ hS rfl⟩
      cases e
      exact ih _ K'
    · obtain ⟨H', ys, cp, out, hcr, hcp, hle, hq⟩ := he
      obtain ⟨acc, c, rfl, hv⟩ := hcr
      obtain ⟨q1, q2⟩ := hcp _ (List.mem_singleton.mpr rfl)
      exact wpAny_pure (hend s1 acc c H' ys out q1 q2 hv hle hq)
end
section
variable {X : Cx} {pins : List (Addr × Obj)} {σ : L2.St} {k : Nat} {Q : List V → Hp → Prop} {A : Around} {s5 : Shared} {u : Value} {E : Value → Shared → Prop}
/-- what a made generator gives a consumer -/
theorem made_list (h : GxMade X pins σ k Q ydOn u s5) : ∃ (a : Addr) (g : Nat) (H1 : Hp) (sc : Shared) (fp : List Addr), u = .ref a ∧ Inv X pins σ H1 sc ∧ ExOk X pins fp ∧ a < s5.heap.objs.size ∧ s5.heap.IsGen a g ∧
    ∀ (A : Around) (S : Addr) (c : Nat) (s2 : Shared), Room k A.in1 → A.frames = some X.stack → s5.heap.objs.size ≤ S → (∀ b o, s5.heap.get? b = some o → s2.heap.get? b = some o) → s2.gens = s5.gens → s2.os = s5.os → s2.heap.get? S = some (lstObj #[] c) →
      Wk X.prog X.w X.stack fp H1 sc (cL S) Q ydOn A a g sizeLine s2 := by
  obtain ⟨a, g, c, H1, sc, fp, rfl, I1, hex, h1, h2, hgen, hgs, hos, hb, hl, hkp, wake⟩ := h
  refine ⟨a, g, H1, sc, fp, rfl, I1, hex, h2, hgen, fun A S cc s2 hr hfr hS hk hg ho hl2 => ⟨hgen.keeps hk, hl.keeps hk, .fresh c, by rw [hg]; exact hgs, rfl, ?_⟩⟩
  refine wake A.in1 (cL S) [(S, lstObj #[] cc)] (s2.setGen g .running) hr hfr (fun b hb => by rw [List.mem_singleton.mp hb]; exact hS) hk ⟨_, _, rfl, .nil⟩ (fun p hp => by rw [List.mem_singleton.mp hp]; exact hl2) (ho.trans hos) (allBare_setGen (by rw [hg]; exact hb) rfl)
/-- collect(g) -/
theorem gx_collect (hr : Room (k + 1) A) (hfr : A.frames = some X.stack) (h : GxMade X pins σ k Q ydOn u s5) {Q' : List Value → Shared → Prop}
    (hQ : ∀ s' acc H' ys, Inv X pins σ H' s' → Vals ys acc → ys.length ≤ sizeLine → Q ys H' → Q' acc s') : wpAny (model X.prog X.w) A (collect u) Q' E s5 := by
  obtain ⟨a, g, H1, sc, fp, rfl, I1, hex, h2, hgen, wk⟩ := made_list h
  have hlim : s5.heap.NoLimit := by
    obtain ⟨_, _, _, _, _, _, _, _, _, _, _, _, _, _, _, hl, _⟩ := h
    exact hl
  have hSa : s5.heap.objs.size ≠ a := Nat.ne_of_gt h2
  have hcl : cStatics < s5.heap.objs.size := let ⟨_, hn, _⟩ := hlim; hn.lt
  have hSc : s5.heap.objs.size ≠ cStatics := Nat.ne_of_gt hcl
  unfold collect
  refine wpAny_bind (wpAny_runValue (codeAny_builtin F.entry_proto_collect ?_))
  rw [Around.under_plainId F.plain_proto_collect _]
  show wpAny _ A.in1 (newList [] >>= fun l => again (.builtin "list.__iadd__" ⟨[l, .ref a], []⟩)) _ _ s5
  refine wpAny_bind (wpAny_newObj_type ?_)
  refine wpAny_pure ⟨plainId_quiet F.plain_list_iadd _, codeAny_builtin F.entry_list_iadd ?_⟩
  rw [Around.under_plainId F.plain_list_iadd _]
  have k1 : ∀ b o, s5.heap.get? b = some o → (s5.heap.push { cls := .type "list", data := .seq ([] : List Value).toArray }).get? b = some o := fun b o e => Heap.get?_push_of_some _ e
  have gty : ∀ {h : Heap}, (∀ b o, s5.heap.get? b = some o → h.get? b = some o) → h.IsGen a g := fun {h} q => hgen.keeps q
  show wpAny _ A.in1 (Builtin.List.listExtendWith (.ref s5.heap.objs.size) (.ref a) (.ref s5.heap.objs.size)) _ _ _
  unfold Builtin.List.listExtendWith
  refine wpAny_bind (wpAny_typeOf (Heap.IsGen.typeIs (s := { s5 with heap := _ }) (gty k1)) ?_)
  have h1 : Builtin.List.listSameRef (.ref s5.heap.objs.size) (.ref a) = false := by simp [Builtin.List.listSameRef, hSa]
  have h2 : (Value.type "generator" == Value.type "list") = false := by decide
  have h3 : (Value.type "generator" == Value.type "tuple") = false := by decide
  simp only [h1, h2, h3, Bool.or_false, Bool.false_eq_true, if_false]
  refine wpAny_bind (wpAny_pyIter_gen (s := { s5 with heap := _ }) (gty k1) ?_)
  refine wpAny_bind (wpAny_holding ?_)
  unfold Builtin.List.listLengthHint
  refine wpAny_bind (wpAny_specialOf (Heap.IsGen.typeIs (s := { s5 with heap := _ }) (gty k1)) F.gen_no_len ?_)
  show wpAny _ A.in1 (specialOf (Value.ref a) (Str.ofString "__length_hint__") >>= _) _ _ _
  refine wpAny_bind (wpAny_specialOf (Heap.IsGen.typeIs (s := { s5 with heap := _ }) (gty k1)) F.gen_no_hint ?_)
  refine wpAny_pure ?_
  show wpAny _ A.in1 (rule "list.extend.makes-room" >>= fun _ => Builtin.List.listTouch (.ref s5.heap.objs.size) >>= fun _ =>
    again (.builtin "list.extend.loop" ⟨[.ref s5.heap.objs.size, .ref a, .ref s5.heap.objs.size], []⟩)) _ _ _
  refine wpAny_bind (wpAny_rule ?_)
  have hS₁ : (s5.heap.push { cls := .type "list", data := .seq ([] : List Value).toArray }).get? s5.heap.objs.size = some { cls := .type "list", data := .seq ([] : List Value).toArray } := Heap.get?_push_size _ rfl
  refine wpAny_bind ?_
  show wpAny _ A.in1 (updateSeq s5.heap.objs.size (·.push .none) >>= fun _ => updateSeq s5.heap.objs.size (·.pop)) _ _ _
  refine wpAny_bind (wpAny_updateSeq hS₁ rfl ?_)
  have hS₂ := Heap.get?_update_self (Obj.mapSeq (·.push Value.none)) hS₁ rfl
  refine wpAny_updateSeq hS₂ rfl ?_
  have hS₃ := Heap.get?_update_self (Obj.mapSeq (·.pop)) hS₂ rfl
  have up : ∀ (h : Heap) (f : Obj → Obj), (∀ b o, s5.heap.get? b = some o → h.get? b = some o) → ∀ b o, s5.heap.get? b = some o → (h.update s5.heap.objs.size f).get? b = some o := fun h f q b o e =>
    (Heap.get?_update_other _ _ (Ne.symm (Nat.ne_of_lt (Heap.lt_size e)))).trans (q b o e)
  have k3 := up _ (Obj.mapSeq (·.pop)) (up _ (Obj.mapSeq (·.push Value.none)) k1)
  have r2 : Room k A.in1.in1 := ⟨hr.hd, by have := hr.dp; show A.depth + 3 * k + 5 < _; omega, by have := hr.un; show A.units + 1 + 1 + 16 * k + 200 < _; omega⟩
  refine wpAny_pure ⟨plainId_quiet F.plain_extend_loop _, gx_extend (A := A) (g := g) hr.hd (by have := hr.dp; omega) hSa hSc (fun s' acc c H' ys out q1 q2 q3 q4 q5 => ?_) sizeLine _ (wk A.in1 s5.heap.objs.size _ _ r2 hfr (Nat.le_refl _) k3 rfl rfl hS₃)⟩
  show wpAny _ A (load s5.heap.objs.size >>= _) _ _ s'
  refine wpAny_bind (wpAny_load q1 ?_)
  exact wpAny_pure (hQ s' acc.toList H' ys (I1.call' (ch := fp) out.os out.un out.hok out.bare hex) q3 q4 q5)
end
end Kk

set_option maxHeartbeats 1000000
namespace Kk
open PySem PySem.Spec PyProof.Rows L2 GenW
section
variable {X : Cx} {c P : Addr} {tg elt iter : Expr} {ifs : List Expr} {p pos gp : Pos} {scope : Scope} {wi : TI} {g : TG} {tt : TT} {te : TE} {k : Nat} {N' : List Str} {nt : Nat} {js : List Nat}
/-- what a generator expression asks -/
structure GxE (X : Cx) (k : Nat) (c P : Addr) (tg elt iter : Expr) (ifs : List Expr) (scope : Scope) (N' : List Str) (nt : Nat) (js : List Nat) (wi : TI) (g : TG) (tt : TT) (te : TE) : Prop where
  tab : GxR.TabB X.base X.mg c P
  code : X.env.code = .ref c
  gs : GxS X.env.scope scope
  gn : GxN X.N X.env.scope scope N' nt js
  it : PI X tg iter wi
  pg : ∀ (A : Around) (C : Addr) (cv : Value) (s : Shared) (H : Hp) (fp : List Addr) (pn : List (Addr × Obj)), Room k (A.deeper (geOf X scope C cv)) → PG (gxC X A (geOf X scope C cv) N' s H fp pn) tg g
  pt : ∀ (A : Around) (C : Addr) (cv : Value) (s : Shared) (H : Hp) (fp : List Addr) (pn : List (Addr × Obj)), Room k (A.deeper (geOf X scope C cv)) → PTs (gxC X A (geOf X scope C cv) N' s H fp pn) ifs tt
  pe : ∀ (A : Around) (C : Addr) (cv : Value) (s : Shared) (H : Hp) (fp : List Addr) (pn : List (Addr × Obj)), Room k (A.deeper (geOf X scope C cv)) → PE (gxC X A (geOf X scope C cv) N' s H fp pn) elt te
  fold : ∀ v, genFold iter X.env v = pure v
def tAllG (P : Addr) (wi : TI) (g : TG) (tt : TT) (te : TE) (nt : Nat) (js : List Nat) : TE := fun σ H Q => tGx P wi g tt te nt js σ H (fun _ H' => Q (.bl true) H') (ydAll fun H' => Q (.bl false) H')
def tAnyG (P : Addr) (wi : TI) (g : TG) (tt : TT) (te : TE) (nt : Nat) (js : List Nat) : TE := fun σ H Q => tGx P wi g tt te nt js σ H (fun _ H' => Q (.bl false) H') (ydAny fun H' => Q (.bl true) H')
def tTupG (P : Addr) (wi : TI) (g : TG) (tt : TT) (te : TE) (nt : Nat) (js : List Nat) : TE := fun σ H Q => tGx P wi g tt te nt js σ H (fun ys H' => ∀ T, H' T = none → Q (.ref T) (upd H' T (.tup ys))) ydOn
theorem pe_allG (E : GxE X k c P tg elt iter ifs scope N' nt js wi g tt te) (room : Room (k + 2) X.A) (hg : Gl X "all") (hm : X.mg "all" = none)
    (he : starEach [.GeneratorExp elt [⟨tg, iter, ifs, 0⟩] scope gp] X.env = (false, eval (.GeneratorExp elt [⟨tg, iter, ifs, 0⟩] scope gp) X.env) :: starEach [] X.env := by rfl) :
    PE X (.Call (.Name "all" p) [.GeneratorExp elt [⟨tg, iter, ifs, 0⟩] scope gp] [] pos) (tAllG P wi g tt te nt js) := by
  refine ⟨fun pins s σ H Q I want => ?_⟩
  have hb : bootBuiltins "all" = some (.builtin "all") := by decide +kernel
  refine wpAny_Call_Name_kw (ld_blt I hg hm hb ?_)
  refine PyProof.Rows.callWith_builtin1 ?_ he (by rfl)
  rw [he]
  show wpAny _ _ (spliced ((false, eval (.GeneratorExp elt [⟨tg, iter, ifs, 0⟩] scope gp) X.env) :: backTo pos (starEach [] X.env))) _ _ s
  refine Calls.spliced_cons (thn (gx_make (room.mono (by omega)) E.tab E.code E.gs E.gn E.it E.pg E.pt E.pe E.fold I want) fun u s5 hG => ?_)
  refine Calls.spliced_nil ?_
  obtain ⟨a, gi, cd, H1, sc, fp, rfl, I1, hex, h1, h2, hgen, hgs, hos, hba, hl, hkp, wake⟩ := hG
  refine call_function_tree F.kind_all F.plain_all F.entry_all (F.args_all1 _) ?_
  unfold Builtin.«all»
  refine wpAny_bind (m := oneArg "all" _) (wpAny_pure ?_)
  refine wpAny_bind (wpAny_pyIter_gen hgen ?_)
  have r2 : Room (k + 1) X.A.in1.in1 := ⟨room.hd, by have := room.dp; show X.A.depth + 3 * (k + 1) + 5 < _; omega, by have := room.un; show X.A.units + 1 + 1 + 16 * (k + 1) + 200 < _; omega⟩
  have K : Wk X.prog X.w X.stack fp H1 sc c0 (fun _ => fun H' => Q (.bl true) H') (ydAll fun H' => Q (.bl false) H') X.A.in1 a gi sizeLine s5 := ⟨hgen, hl, .fresh cd, hgs, rfl,
    wake X.A.in1.in1 c0 [] (s5.setGen gi .running) r2 I1.ok.frames (fun b hb => by cases hb) (fun b o e => e) rfl (fun q hq => by cases hq) hos (allBare_setGen hba rfl)⟩
  refine wpAny_pure ⟨plainId_quiet F.plain_all_loop _, gx_all (A := X.A) room.hd (by have := room.dp; omega) (fun s' H' out hq => ?_) (fun s' H' out hq => ?_) sizeLine s5 K⟩
  · exact ⟨.bl true, H', I1.call' (ch := fp) out.os out.un out.hok out.bare hex, rfl, hq⟩
  · exact ⟨.bl false, H', I1.call' (ch := fp) out.os out.un out.hok out.bare hex, rfl, hq⟩
theorem pe_anyG (E : GxE X k c P tg elt iter ifs scope N' nt js wi g tt te) (room : Room (k + 2) X.A) (hg : Gl X "any") (hm : X.mg "any" = none)
    (he : starEach [.GeneratorExp elt [⟨tg, iter, ifs, 0⟩] scope gp] X.env = (false, eval (.GeneratorExp elt [⟨tg, iter, ifs, 0⟩] scope gp) X.env) :: starEach [] X.env := by rfl) :
    PE X (.Call (.Name "any" p) [.GeneratorExp elt [⟨tg, iter, ifs, 0⟩] scope gp] [] pos) (tAnyG P wi g tt te nt js) := by
  refine ⟨fun pins s σ H Q I want => ?_⟩
  have hb : bootBuiltins "any" = some (.builtin "any") := by decide +kernel
  refine wpAny_Call_Name_kw (ld_blt I hg hm hb ?_)
  refine PyProof.Rows.callWith_builtin1 ?_ he (by rfl)
  rw [he]
  show wpAny _ _ (spliced ((false, eval (.GeneratorExp elt [⟨tg, iter, ifs, 0⟩] scope gp) X.env) :: backTo pos (starEach [] X.env))) _ _ s
  refine Calls.spliced_cons (thn (gx_make (room.mono (by omega)) E.tab E.code E.gs E.gn E.it E.pg E.pt E.pe E.fold I want) fun u s5 hG => ?_)
  refine Calls.spliced_nil ?_
  obtain ⟨a, gi, cd, H1, sc, fp, rfl, I1, hex, h1, h2, hgen, hgs, hos, hba, hl, hkp, wake⟩ := hG
  refine call_function_tree F.kind_any F.plain_any F.entry_any (F.args_any1 _) ?_
  unfold Builtin.«any»
  refine wpAny_bind (m := oneArg "any" _) (wpAny_pure ?_)
  refine wpAny_bind (wpAny_pyIter_gen hgen ?_)
  have r2 : Room (k + 1) X.A.in1.in1 := ⟨room.hd, by have := room.dp; show X.A.depth + 3 * (k + 1) + 5 < _; omega, by have := room.un; show X.A.units + 1 + 1 + 16 * (k + 1) + 200 < _; omega⟩
  have K : Wk X.prog X.w X.stack fp H1 sc c0 (fun _ => fun H' => Q (.bl false) H') (ydAny fun H' => Q (.bl true) H') X.A.in1 a gi sizeLine s5 := ⟨hgen, hl, .fresh cd, hgs, rfl,
    wake X.A.in1.in1 c0 [] (s5.setGen gi .running) r2 I1.ok.frames (fun b hb => by cases hb) (fun b o e => e) rfl (fun q hq => by cases hq) hos (allBare_setGen hba rfl)⟩
  refine wpAny_pure ⟨plainId_quiet F.plain_any_loop _, gx_any (A := X.A) room.hd (by have := room.dp; omega) (fun s' H' out hq => ?_) (fun s' H' out hq => ?_) sizeLine s5 K⟩
  · exact ⟨.bl true, H', I1.call' (ch := fp) out.os out.un out.hok out.bare hex, rfl, hq⟩
  · exact ⟨.bl false, H', I1.call' (ch := fp) out.os out.un out.hok out.bare hex, rfl, hq⟩
/-- tuple(g) of a made generator -/
theorem call_tupleG {pins : List (Addr × Obj)} {σ : L2.St} {s5 : Shared} {u : Value} {A : Around} {Q : List V → Hp → Prop} {Q' : Value → Shared → Prop} {E : Value → Shared → Prop} (hr : Room (k + 2) A) (hfr : A.frames = some X.stack) (h : GxMade X pins σ k Q ydOn u s5)
    (hQ : ∀ s' acc H' ys, Inv X pins σ H' s' → Vals ys acc → ys.length ≤ sizeLine → Q ys H' → Q' (.ref s'.heap.objs.size) { s' with heap := s'.heap.push { cls := .type "tuple", data := .seq acc.toArray } }) :
    wpAny (model X.prog X.w) A (call (.type "tuple") [u]) Q' E s5 := by
  obtain ⟨a, g0, hu, hgen⟩ : ∃ (a : Addr) (g : Nat), u = .ref a ∧ s5.heap.IsGen a g := by
    obtain ⟨a, g, _, _, _, _, e, _, _, _, _, q, _⟩ := h
    exact ⟨a, g, e, q⟩
  subst hu
  refine callType_codes (Q₁ := fun obj s₁ => s₁.TypeIs obj "tuple" ∧ Q' obj s₁) F.called_tuple (F.typeCall_tuple_1 _) F.entry_object_init ?_ fun obj s₁ h₁ => ?_
  · refine codeAny_of_tree ?_
    show wpAny _ A.in1.in1 (do checkBuiltinCall "tuple.__new__" ⟨[.type "tuple", .ref a], []⟩; again (.builtin "tuple.__new__" ⟨[.type "tuple", .ref a], []⟩)) _ _ s5
    refine wpAny_bind (wpAny_of_eq (F.newCall_tuple_1 _) (wpAny_pure ⟨plainId_quiet F.plain_tuple_new _, codeAny_builtin F.entry_tuple_new ?_⟩))
    rw [Around.under_plainId F.plain_tuple_new _]
    have hsub := sub_tuple_self
    have hinit := init_tuple_lookup
    have hmh := madeHere_tuple
    have hTI : s5.TypeIs (.ref a) "generator" := hgen.typeIs
    have r2 : Room (k + 1) A.in1.in1 := ⟨hr.hd, by have := hr.dp; show A.depth + 3 * (k + 1) + 5 < _; omega, by have := hr.un; show A.units + 1 + 1 + 16 * (k + 1) + 200 < _; omega⟩
    have q1 : ∀ {E' : Value → Shared → Prop} {Q2 : List Value → Shared → Prop}, (∀ s' acc H' ys, Inv X pins σ H' s' → Vals ys acc → ys.length ≤ sizeLine → Q ys H' → Q2 acc s') → wpAny (model X.prog X.w) A.in1.in1 (collect (.ref a)) Q2 E' s5 :=
      fun {E' Q2} hq => gx_collect (A := A.in1.in1) r2 hfr h hq
    wp_walk using wpAny_typeOf hTI, q1
    intro s' acc H' ys I' hv hle hq
    show wpAny _ _ (Builtin.Tuple.tupleExact acc.toArray >>= fun v => ret v) _ _ _
    unfold Builtin.Tuple.tupleExact
    refine wpAny_bind (wpAny_newObj_type ?_ (by show acc.toArray.size ≤ sizeLine; rw [List.size_toArray, ← hv.length]; exact hle))
    exact wpAny_pure ⟨⟨_, Heap.get?_push_size _ rfl, rfl⟩, hQ s' acc H' ys I' hv hle hq⟩
  · exact ⟨h₁.1, F.args_object_init_2 obj _, object_init_meets F.called_tuple.init.lookup F.called_tuple.made (by decide) X.prog X.w A.in1 _ s₁ ⟨h₁.1, rfl, h₁.2⟩⟩
theorem pe_tupG (E : GxE X k c P tg elt iter ifs scope N' nt js wi g tt te) (room : Room (k + 3) X.A) (hg : Gl X "tuple") (hm : X.mg "tuple" = none)
    (he : starEach [.GeneratorExp elt [⟨tg, iter, ifs, 0⟩] scope gp] X.env = (false, eval (.GeneratorExp elt [⟨tg, iter, ifs, 0⟩] scope gp) X.env) :: starEach [] X.env := by rfl) :
    PE X (.Call (.Name "tuple" p) [.GeneratorExp elt [⟨tg, iter, ifs, 0⟩] scope gp] [] pos) (tTupG P wi g tt te nt js) := by
  refine ⟨fun pins s σ H Q I want => ?_⟩
  have hb : bootBuiltins "tuple" = some (.type "tuple") := by decide +kernel
  refine wpAny_Call_Name_kw (ld_blt I hg hm hb ?_)
  refine PyProof.Rows.callWith_type1 ?_ he rfl
  rw [he]
  show wpAny _ _ (spliced ((false, eval (.GeneratorExp elt [⟨tg, iter, ifs, 0⟩] scope gp) X.env) :: backTo pos (starEach [] X.env))) _ _ s
  refine Calls.spliced_cons (thn (gx_make (room.mono (by omega)) E.tab E.code E.gs E.gn E.it E.pg E.pt E.pe E.fold I want) fun u s5 hG => ?_)
  refine Calls.spliced_nil ?_
  refine call_tupleG (X := X) (k := k + 1) (room.mono (by omega)) I.ok.frames hG fun s' acc H' ys I' hv hle hq => ?_
  refine ⟨.ref s'.heap.objs.size, upd H' s'.heap.objs.size (.tup ys), I'.laid (t' := s'.toks) (fun b o e => Heap.get?_push_of_some _ e) (Nat.le_refl _) ⟨hle, acc, hv, ?_⟩, rfl, hq _ (I'.hok.fresh (Nat.le_refl _))⟩
  exact ⟨_, Heap.get?_push_size _ rfl, rfl, _, rfl⟩
end
end Kk

namespace K43
open PySem PySem.Spec PyProof.Rows L2 Kk
/-! the text -/
def topS (i : Nat) : Stmt := PySem.Challenge.pw_wipeways_k43_what_is_a_code.main.body.getD i (.Pass ⟨0, 0, 0, 0⟩)
abbrev sName : Stmt := topS 4
theorem scName : FnScope ["thing"] ["thing"] (defScope sName) := ⟨rfl, rfl, rfl, by decide +kernel, rfl, by decide +kernel, by decide +kernel⟩
/-! the mathematics -/
def abc : Str := Str.ofString "abcdefghijklmnopqrstuvwxyz"
def tongS : List Str := ["take", "ask", "number", "copy", "mix", "open", "tell", "wipe", "clear", "drop", "choose", "loop", "out", "risk", "fault", "call", "back", "def", "main"].map Str.ofString
def tongV : List V := tongS.map V.str
def allAbc (a : Str) : Bool := a.cps.toList.all fun c => decide (c ∈ abc.cps.toList)
def nameB (a : Str) : Bool := !inV (.str a) tongV && (decide ((1 : Int) ≤ (a.length : Int)) && decide ((a.length : Int) ≤ 8)) && allAbc a
/-- what the module has at its names -/
structure Mg (K : PySem.W.Frag) (mg : Str → Option Value) (tA : Addr) : Prop where
  isinstance : mg "isinstance" = none
  str : mg "str" = none
  len : mg "len" = none
  all : mg "all" = none
  tongue : mg "TONGUE" = some (.ref tA)
  tongueT : ∀ H, SqT K H tA tongV
  most : ∃ t, mg "MOST_LETTERS" = some (.int 8 t)
  letters : ∃ t, mg "LETTERS" = some (.str abc t)
section
variable {P : Program} {w : World} {K : PySem.W.Frag} {mg : Str → Option Value} {base : Heap}

/-- a thing that is no text -/
def NoStr (K : PySem.W.Frag) (H : Hp) (v : V) : Prop := ∃ t : String, TyX K H v (.type t) ∧ kitB t "str" = some false
def spName (K : PySem.W.Frag) (T : Addr) : Sp := fun vs H Q _ => ∃ v, vs = [v] ∧ GxR.TabG H T ∧
  ((∃ a : Str, v = .str a ∧ a.length ≤ 1000 ∧ ∀ H', Ex [] H H' → Q (.bl (nameB a)) H') ∨ (NoStr K H v ∧ Q (.bl false) H))
theorem len_line {a : Str} (h : a.length ≤ 1000) : a.length ≤ sizeLine := Nat.le_trans h (by decide)
theorem flat_tong : tongV.all flatV = true := by decide +kernel
theorem name_split (a : Str) (h1 : inV (.str a) tongV = false) : nameB a = (decide ((1 : Int) ≤ (a.length : Int)) && decide ((a.length : Int) ≤ 8) && allAbc a) := by
  unfold nameB; rw [h1]; rfl

theorem ok_name {f c T tA : Addr} {k : Nat} {oc : Value} {od an : Option Addr} {osl : Array (Option Value)} {kV doc pm ct : Value}
    (lk : K.lookup f = some ⟨oc, od, .func (PySem.W.fnOf "is_name" "is_name" (defArgs sName) (defBody sName) (defScope sName) .none kV doc pm an (.ref c) ct), osl⟩) (hc : PySem.W.codeIn K (.ref c) "is_name" = true)
    (tab : GxR.TabB base mg c T) (M : Mg K mg tA) (gls : base.Ns mainGlobals mg) :
    FnOk P w K mg base CX0 (k + 1) f (PySem.W.fnOf "is_name" "is_name" (defArgs sName) (defBody sName) (defScope sName) .none kV doc pm an (.ref c) ct) ["thing"] (spName K T) := by
  obtain ⟨tm, gm⟩ := M.most
  obtain ⟨tl, gl⟩ := M.letters
  refine okC lk hc scName (fun vs H Q E h => ?_) (fun A outer s H vs Q E hr h => ?_)
  · obtain ⟨v, rfl, _⟩ := h; rfl
  · obtain ⟨v, rfl, hT, h⟩ := h
    refine ⟨_, pss_cons (ps_if (PW.pt (pw_or (pt_not (pt_val (pe_callB call_isi (by rfl) M.isinstance (by decide +kernel) (pa_cons (pv 0) (pa_cons (pe_bltn (v := .ty "str") (by rfl) M.str (by decide +kernel) rfl) pa_nil)))))
        (pw_or1 (pt_cmpR op_in_seq (pv 0) (pe_glob (v := .ref tA) rfl M.tongue rfl) rfl)))) (pss_one (ps_ret pe_bl)) pss_nil)
      (pss_one (ps_ret (pe_and (pe_chain op_le op_le pe_int (pe_callB call_len_str (by rfl) M.len PySem.boot_len (pa_cons (pv 0) pa_nil)) (pe_glob (v := .int 8) rfl gm ⟨_, rfl⟩))
        (pe_one (pe_allB hr (by rfl) M.all tab rfl ⟨rfl, rfl, by decide +kernel, rfl, rfl, fun y hy e => absurd e ((by decide +kernel : ∀ y ∈ [(Str.ofString ".0", NameKind.local), (Str.ofString "sign", NameKind.local), (Str.ofString "LETTERS", NameKind.globalImplicit)], y.2 ≠ NameKind.free) y hy)⟩ (pv 0) (elt_in gls rfl rfl rfl gl) (fun _ => rfl)))))), ?_⟩
    rcases h with ⟨a, rfl, ha, q⟩ | ⟨⟨t, ht, hk⟩, q⟩
    · refine ⟨.str a, rfl, .str a, .ty "str", .type "str", .type "str", true, rfl, .ty "str", .base (.str a), kit_ty (by decide +kernel), true, rfl, iteF ?_⟩
      refine ⟨.str a, rfl, tA, tongV, rfl, .inr (M.tongueT _), rfl, flat_tong, _, rfl, ite2 (fun e => ?_) (fun e => ?_)⟩
      · have e2 : inV (.str a) tongV = true := e
        have e3 : nameB a = false := by unfold nameB; rw [e2]; rfl
        have q2 := q H .refl
        rw [e3] at q2; exact q2
      · have e2 : inV (.str a) tongV = false := by cases z : inV (.str a) tongV with | false => rfl | true => exact absurd z e
        refine ⟨.str a, rfl, a, rfl, len_line ha, 1, (a.length : Int), rfl, rfl, _, rfl, ite2 (fun e4 => ?_) (fun e4 => ?_)⟩
        · refine ⟨_, 8, rfl, rfl, _, rfl, ite2 (fun e5 => ?_) (fun e5 => ?_)⟩
          · refine ⟨.str a, rfl, a, rfl, hT, fun H2 hH => ?_⟩
            have q2 := q H2 (.tabbed hT hH)
            rw [name_split a e2, e4, e5] at q2
            exact q2
          · have q2 := q H .refl
            have e6 : decide ((a.length : Int) ≤ 8) = false := by cases z : decide ((a.length : Int) ≤ 8) with | false => rfl | true => exact absurd z e5
            rw [name_split a e2, e6, Bool.and_false, Bool.false_and] at q2
            exact q2
        · have q2 := q H .refl
          have e6 : decide ((1 : Int) ≤ (a.length : Int)) = false := by cases z : decide ((1 : Int) ≤ (a.length : Int)) with | false => rfl | true => exact absurd z e4
          rw [name_split a e2, e6, Bool.false_and, Bool.false_and] at q2
          exact ⟨false, rfl, iteF q2⟩
    · refine ⟨v, rfl, v, .ty "str", .type t, .type "str", false, rfl, .ty "str", ht, kit_ty hk, false, rfl, iteT (iteT q)⟩
end
end K43

namespace K43
open PySem PySem.Spec PyProof.Rows L2 Kk
abbrev s_is_whole : Stmt := topS 7
theorem sc_is_whole : FnScope ["thing"] ["thing"] (defScope s_is_whole) := ⟨rfl, rfl, rfl, by decide +kernel, rfl, by decide +kernel, by decide +kernel⟩
/-! anything, as data -/
section
variable {K : PySem.W.Frag} {H H' : Hp}
mutual
theorem dp_ex (e : Ex [] H H') : ∀ {v : V} {d : PyData}, Dp K H v d → Dp K H' v d
  | _, _, .non => .non
  | _, _, .bl b => .bl b
  | _, _, .int i => .int i
  | _, _, .str x => .str x
  | _, _, .lst h r => .lst (e.seqL h) (dpAll_ex e r)
  | _, _, .tup h r => .tup (e.seqT h) (dpAll_ex e r)
theorem dpAll_ex (e : Ex [] H H') : ∀ {vs : List V} {ds : List PyData}, DpAll K H vs ds → DpAll K H' vs ds
  | _, _, .nil => .nil
  | _, _, .cons h r => .cons (dp_ex e h) (dpAll_ex e r)
end
def tyN : PyData → String
  | .none => "NoneType"
  | .bool _ => "bool"
  | .int _ => "int"
  | .str _ => "str"
  | .list _ => "list"
  | .tuple _ => "tuple"
  | .dict _ => "dict"
theorem dp_ty {v : V} {d : PyData} (h : Dp K H v d) : TyX K H v (.type (tyN d)) := by
  cases h with
  | non => exact .base .non
  | bl b => exact .base (.bl b)
  | int i => exact .base (.int i)
  | str x => exact .base (.str x)
  | lst h r =>
    rcases h with (h | ⟨o, h⟩) | ⟨o, its, n, h1, h2, _⟩
    · exact .base (.lst h)
    · exact .base (.frz h)
    · exact .kList h1 h2
  | tup h r =>
    rcases h with (h | ⟨o, h⟩) | ⟨o, its, n, h1, h2, _⟩
    · exact .base (.tup h)
    · exact .fTuple h
    · exact .kTuple h1 h2
theorem rd_isi {v : V} {d : PyData} {nm : String} {b : Bool} {Q : VK} (h : Dp K H v d) (k : kitB (tyN d) nm = some b) (q : Q (.bl b) H) : rIsi K [v, .ty nm] H Q :=
  ⟨v, .ty nm, _, _, b, rfl, .ty nm, dp_ty h, kit_ty k, q⟩
theorem dpAll_len {vs : List V} {ds : List PyData} (h : DpAll K H vs ds) : vs.length = ds.length := by
  induction vs generalizing ds with
  | nil => cases h; rfl
  | cons v vs ih => cases h with | cons a b => rw [List.length_cons, List.length_cons, ih b]
theorem dpAll_get {vs : List V} {ds : List PyData} (h : DpAll K H vs ds) : ∀ {i : Nat} {v : V}, vs[i]? = some v → ∃ d, ds[i]? = some d ∧ Dp K H v d := by
  induction vs generalizing ds with
  | nil => intro i v e; simp at e
  | cons v0 vs ih =>
    cases h with
    | cons a b =>
      intro i v e
      cases i with
      | zero => cases e; exact ⟨_, rfl, a⟩
      | succ i => exact ih b (i := i) (by simpa using e)
end
/-! the decisions -/
def intD : PyData → Bool
  | .int _ => true
  | .bool _ => true
  | _ => false
def blD : PyData → Bool
  | .bool _ => true
  | _ => false
def tupD : PyData → Bool
  | .tuple _ => true
  | _ => false
def strD : PyData → Bool
  | .str _ => true
  | _ => false
def wholeD : PyData → Bool
  | .int _ => true
  | _ => false
def nameD : PyData → Bool
  | .str a => nameB a
  | _ => false
theorem kit_int (d : PyData) : kitB (tyN d) "int" = some (intD d) := by
  cases d with
  | none => exact (by decide +kernel : kitB "NoneType" "int" = some false)
  | bool b => exact (by decide +kernel : kitB "bool" "int" = some true)
  | int i => exact (by decide +kernel : kitB "int" "int" = some true)
  | str a => exact (by decide +kernel : kitB "str" "int" = some false)
  | list ds => exact (by decide +kernel : kitB "list" "int" = some false)
  | tuple ds => exact (by decide +kernel : kitB "tuple" "int" = some false)
  | dict kvs => exact (by decide +kernel : kitB "dict" "int" = some false)
theorem kit_bool (d : PyData) : kitB (tyN d) "bool" = some (blD d) := by
  cases d with
  | none => exact (by decide +kernel : kitB "NoneType" "bool" = some false)
  | bool b => exact (by decide +kernel : kitB "bool" "bool" = some true)
  | int i => exact (by decide +kernel : kitB "int" "bool" = some false)
  | str a => exact (by decide +kernel : kitB "str" "bool" = some false)
  | list ds => exact (by decide +kernel : kitB "list" "bool" = some false)
  | tuple ds => exact (by decide +kernel : kitB "tuple" "bool" = some false)
  | dict kvs => exact (by decide +kernel : kitB "dict" "bool" = some false)
theorem kit_tup (d : PyData) : kitB (tyN d) "tuple" = some (tupD d) := by
  cases d with
  | none => exact (by decide +kernel : kitB "NoneType" "tuple" = some false)
  | bool b => exact (by decide +kernel : kitB "bool" "tuple" = some false)
  | int i => exact (by decide +kernel : kitB "int" "tuple" = some false)
  | str a => exact (by decide +kernel : kitB "str" "tuple" = some false)
  | list ds => exact (by decide +kernel : kitB "list" "tuple" = some false)
  | tuple ds => exact (by decide +kernel : kitB "tuple" "tuple" = some true)
  | dict kvs => exact (by decide +kernel : kitB "dict" "tuple" = some false)
theorem kit_str (d : PyData) : kitB (tyN d) "str" = some (strD d) := by
  cases d with
  | none => exact (by decide +kernel : kitB "NoneType" "str" = some false)
  | bool b => exact (by decide +kernel : kitB "bool" "str" = some false)
  | int i => exact (by decide +kernel : kitB "int" "str" = some false)
  | str a => exact (by decide +kernel : kitB "str" "str" = some true)
  | list ds => exact (by decide +kernel : kitB "list" "str" = some false)
  | tuple ds => exact (by decide +kernel : kitB "tuple" "str" = some false)
  | dict kvs => exact (by decide +kernel : kitB "dict" "str" = some false)
theorem noStr {K : PySem.W.Frag} {H : Hp} {v : V} {d : PyData} (h : Dp K H v d) (n : ∀ a, d ≠ .str a) : NoStr K H v := by
  refine ⟨tyN d, dp_ty h, ?_⟩
  rw [kit_str]
  cases d <;> first | rfl | exact absurd rfl (n _)
/-- bounds: texts and sizes, everywhere in it -/
inductive Dk : PyData → Prop
  | non : Dk .none
  | bl (b : Bool) : Dk (.bool b)
  | int (i : Int) : Dk (.int i)
  | str {x : Str} : x.length ≤ 1000 → Dk (.str x)
  | lst {ds : List PyData} : Dk (.list ds)
  | tup {ds : List PyData} : ds.length < 64 → (∀ d ∈ ds, Dk d) → Dk (.tuple ds)
section
variable {P : Program} {w : World} {K : PySem.W.Frag} {mg : Str → Option Value} {base : Heap}
def spWhole (K : PySem.W.Frag) : Sp := fun vs H Q _ => ∃ v d, vs = [v] ∧ Dp K H v d ∧ Q (.bl (wholeD d)) H
theorem ok_is_whole {f : Addr} {fd : FuncData} {k : Nat} (F : Fun K "is_whole" "is_whole" s_is_whole f fd) (m_isinstance : mg "isinstance" = none) (m_int : mg "int" = none) (m_bool : mg "bool" = none) : FnOk P w K mg base CX0 (k + 1) f fd ["thing"] (spWhole K) := by
  refine F.ok sc_is_whole (fun vs H Q E h => ?_) (fun cdv A outer s H vs Q E hr h => ?_)
  · obtain ⟨v, d, rfl, _⟩ := h; rfl
  · obtain ⟨v, d, rfl, hd, q⟩ := h
    refine ⟨_, (pss_one (ps_ret (pe_and (pe_callB call_isi (by rfl) m_isinstance (by decide +kernel) (pa_cons (pv 0) (pa_cons (pe_bltn (v := .ty "int") (by rfl) m_int (by decide +kernel) rfl) pa_nil))) (pe_one (pe_not (pe_callB call_isi (by rfl) m_isinstance (by decide +kernel) (pa_cons (pv 0) (pa_cons (pe_bltn (v := .ty "bool") (by rfl) m_bool (by decide +kernel) rfl) pa_nil)))))))), ?_⟩
    refine ⟨v, rfl, v, .ty "int", .type (tyN d), .type "int", intD d, rfl, .ty "int", dp_ty hd, kit_ty (kit_int d), _, rfl, ite2 (fun e => ?_) fun e => ?_⟩
    · refine ⟨v, rfl, v, .ty "bool", .type (tyN d), .type "bool", blD d, rfl, .ty "bool", dp_ty hd, kit_ty (kit_bool d), _, rfl, ?_⟩
      have e2 : (!blD d) = wholeD d := by cases d <;> first | rfl | cases e
      rw [e2]; exact q
    · have e2 : wholeD d = false := by cases d <;> first | rfl | exact absurd rfl e
      rw [e2] at q; exact q
/-- is_box and is_name of data: behind the table -/
theorem name_or {H : Hp} {v : V} {d : PyData} {Q : VK} (h : Dp K H v d) (k : Dk d) (q : ∀ H', Ex [] H H' → Q (.bl (nameD d)) H') :
    (∃ a : Str, v = .str a ∧ a.length ≤ 1000 ∧ ∀ H', Ex [] H H' → Q (.bl (nameB a)) H') ∨ (NoStr K H v ∧ Q (.bl false) H) := by
  by_cases z : ∃ a, d = .str a
  · obtain ⟨a, rfl⟩ := z
    cases h; cases k
    exact .inl ⟨a, rfl, by assumption, q⟩
  · refine .inr ⟨noStr h fun a e => z ⟨a, e⟩, ?_⟩
    have e : nameD d = false := by cases d <;> first | rfl | exact absurd ⟨_, rfl⟩ z
    have := q H .refl
    rw [e] at this; exact this
/-- of data -/
def spNameD (K : PySem.W.Frag) (T : Addr) : Sp := fun vs H Q _ => ∃ v d, vs = [v] ∧ Dp K H v d ∧ Dk d ∧ GxR.TabG H T ∧ ∀ H', Ex [] H H' → Q (.bl (nameD d)) H'
theorem fn_imp {X : CXT} {k : Nat} {f : Addr} {fd : FuncData} {ps : List Str} {sp sp' : Sp} (F : FnOk P w K mg base X k f fd ps sp) (i : ∀ vs H Q E, sp' vs H Q E → sp vs H Q E) : FnOk P w K mg base X k f fd ps sp' :=
  ⟨fun vs H Q E h => F.len vs H Q E (i vs H Q E h), fun A outer s H args us vs Q E r e b v h => F.run A outer s H args us vs Q E r e b v (i vs H Q E h)⟩
theorem name_data {T f : Addr} {fd : FuncData} {k : Nat} (F : FnOk P w K mg base CX0 k f fd ["thing"] (spName K T)) : FnOk P w K mg base CX0 k f fd ["thing"] (spNameD K T) :=
  fn_imp F fun vs H Q E h => by
    obtain ⟨v, d, rfl, h1, h2, h3, h4⟩ := h
    exact ⟨v, rfl, h3, name_or h1 h2 h4⟩
end
end K43

namespace K43
open PySem PySem.Spec PyProof.Rows L2 Kk
abbrev s_part : Stmt := topS 11
theorem sc_part : FnScope ["kind", "part", "hands"] ["kind", "part", "hands"] (defScope s_part) := ⟨rfl, rfl, rfl, by decide +kernel, rfl, by decide +kernel, by decide +kernel⟩
def belowD (e : Int) : PyData → Bool
  | .int n => decide (0 ≤ n) && decide (n < e)
  | _ => false
def partD (h : Int) (k : Str) (d : PyData) : Bool :=
  if k = Str.ofString "name" then nameD d else if k = Str.ofString "hand" then belowD h d else if k = Str.ofString "slot" then belowD 60 d else belowD 10000 d
theorem below_int (e n : Int) : belowD e (.int n) = (decide (0 ≤ n) && decide (n < e)) := rfl
theorem whole_int {d : PyData} (h : wholeD d = true) : ∃ i, d = .int i := by cases d <;> first | exact ⟨_, rfl⟩ | cases h
theorem below_no {d : PyData} {e : Int} (h : ¬ wholeD d = true) : belowD e d = false ∧ wholeD d = false := by
  cases d <;> first | exact ⟨rfl, rfl⟩ | exact absurd rfl h
section
variable {P : Program} {w : World} {K : PySem.W.Frag} {mg : Str → Option Value} {base : Heap}
def spPart (K : PySem.W.Frag) (T : Addr) : Sp := fun vs H Q _ => ∃ (k : Str) (v : V) (d : PyData) (h : Int), vs = [.str k, v, .int h] ∧ Dp K H v d ∧ Dk d ∧ GxR.TabG H T ∧ ∀ H', Ex [] H H' → Q (.bl (partD h k d)) H'
theorem ok_part {f T f1 f2 : Addr} {fd d1 d2 : FuncData} {k : Nat} (F : Fun K "part_is_right" "part_is_right" s_part f fd) (C_is_name : Cl P w K mg base k "is_name" ["thing"] (spNameD K T) f1 d1) (C_is_whole : Cl P w K mg base k "is_whole" ["thing"] (spWhole K) f2 d2)
    (g_MS : ∃ t, mg "MOST_SLOTS" = some (.int 60 t)) (g_MN : ∃ t, mg "MOST_NUMBER" = some (.int 9999 t)) : FnOk P w K mg base CX0 (k + 1) f fd ["kind", "part", "hands"] (spPart K T) := by
  obtain ⟨t1, g1⟩ := g_MS
  obtain ⟨t2, g2⟩ := g_MN
  refine F.ok sc_part (fun vs H Q E h => ?_) (fun cdv A outer s H vs Q E hr h => ?_)
  · obtain ⟨k, v, d, h, rfl, _⟩ := h; rfl
  · obtain ⟨kd, v, d, hh, rfl, hd, dk, hT, q⟩ := h
    refine ⟨_, (pss_cons (ps_if (pt_cmpR op_eq (pv 0) pe_str (nomark _)) (pss_one (ps_ret (pe_call C_is_name.g hr (by rfl) C_is_name.m C_is_name.k C_is_name.b .nil pass0 (pa_cons (pv 1) pa_nil)))) pss_nil)
      (pss_cons (ps_if (pt_cmpR op_eq (pv 0) pe_str (nomark _)) (pss_one (ps_ret (pe_and (pe_call C_is_whole.g hr (by rfl) C_is_whole.m C_is_whole.k C_is_whole.b .nil pass0 (pa_cons (pv 1) pa_nil)) (pe_one (pe_chain op_le op_lt pe_int (pv 1) (pv 2)))))) pss_nil)
      (pss_cons (ps_if (pt_cmpR op_eq (pv 0) pe_str (nomark _)) (pss_one (ps_ret (pe_and (pe_call C_is_whole.g hr (by rfl) C_is_whole.m C_is_whole.k C_is_whole.b .nil pass0 (pa_cons (pv 1) pa_nil)) (pe_one (pe_chain op_le op_lt pe_int (pv 1) (pe_glob (v := .int 60) rfl g1 ⟨_, rfl⟩)))))) pss_nil)
      (pss_one (ps_ret (pe_and (pe_call C_is_whole.g hr (by rfl) C_is_whole.m C_is_whole.k C_is_whole.b .nil pass0 (pa_cons (pv 1) pa_nil)) (pe_one (pe_chain op_le op_le pe_int (pv 1) (pe_glob (v := .int 9999) rfl g2 ⟨_, rfl⟩))))))))), ?_⟩
    have q0 := q H .refl
    unfold partD at q q0
    refine ⟨.str kd, rfl, rfl, _, rfl, ite2 (fun k1 => ?_) fun k1 => ?_⟩
    · have z1 : kd = Str.ofString "name" := V.str.inj (of_decide_eq_true k1)
      rw [if_pos z1] at q
      exact ⟨v, rfl, v, d, rfl, hd, dk, hT, q⟩
    have n1 : ¬ kd = Str.ofString "name" := fun z => k1 (decide_eq_true (by rw [z]))
    rw [if_neg n1] at q0
    refine ⟨.str kd, rfl, rfl, _, rfl, ite2 (fun k2 => ?_) fun k2 => ?_⟩
    · have z1 : kd = Str.ofString "hand" := V.str.inj (of_decide_eq_true k2)
      rw [if_pos z1] at q0
      refine ⟨v, rfl, v, d, rfl, hd, _, rfl, ite2 (fun c => ?_) fun c => ?_⟩
      · obtain ⟨n, rfl⟩ := whole_int c
        cases hd
        refine ⟨.int n, rfl, 0, n, rfl, rfl, _, rfl, ite2 (fun b => ⟨.int hh, rfl, n, hh, rfl, rfl, ?_⟩) fun b => ?_⟩
        · rw [below_int] at q0
          rw [b, Bool.true_and] at q0; exact q0
        · have b2 : decide (0 ≤ n) = false := by cases z : decide (0 ≤ n) with | false => rfl | true => exact absurd z b
          rw [below_int] at q0
          rw [b2, Bool.false_and] at q0; exact q0
      · obtain ⟨e1, e2⟩ := below_no (e := hh) c
        rw [e1] at q0; first | exact q0 | (rw [e2]; exact q0)
    have n2 : ¬ kd = Str.ofString "hand" := fun z => k2 (decide_eq_true (by rw [z]))
    rw [if_neg n2] at q0
    refine ⟨.str kd, rfl, rfl, _, rfl, ite2 (fun k3 => ?_) fun k3 => ?_⟩
    · have z1 : kd = Str.ofString "slot" := V.str.inj (of_decide_eq_true k3)
      rw [if_pos z1] at q0
      refine ⟨v, rfl, v, d, rfl, hd, _, rfl, ite2 (fun c => ?_) fun c => ?_⟩
      · obtain ⟨n, rfl⟩ := whole_int c
        cases hd
        refine ⟨.int n, rfl, 0, n, rfl, rfl, _, rfl, ite2 (fun b => ⟨n, 60, rfl, rfl, ?_⟩) fun b => ?_⟩
        · rw [below_int] at q0
          rw [b, Bool.true_and] at q0; exact q0
        · have b2 : decide (0 ≤ n) = false := by cases z : decide (0 ≤ n) with | false => rfl | true => exact absurd z b
          rw [below_int] at q0
          rw [b2, Bool.false_and] at q0; exact q0
      · obtain ⟨e1, e2⟩ := below_no (e := 60) c
        rw [e1] at q0; first | exact q0 | (rw [e2]; exact q0)
    have n3 : ¬ kd = Str.ofString "slot" := fun z => k3 (decide_eq_true (by rw [z]))
    rw [if_neg n3] at q0
    refine ⟨v, rfl, v, d, rfl, hd, _, rfl, ite2 (fun c => ?_) fun c => ?_⟩
    · obtain ⟨n, rfl⟩ := whole_int c
      cases hd
      refine ⟨.int n, rfl, 0, n, rfl, rfl, _, rfl, ite2 (fun b => ⟨n, 9999, rfl, rfl, ?_⟩) fun b => ?_⟩
      · rw [below_int] at q0
        have e9 : decide (n < 10000) = decide (n ≤ 9999) := by rw [decide_eq_decide]; omega
        rw [b, Bool.true_and, e9] at q0; exact q0
      · have b2 : decide (0 ≤ n) = false := by cases z : decide (0 ≤ n) with | false => rfl | true => exact absurd z b
        rw [below_int] at q0
        rw [b2, Bool.false_and] at q0; exact q0
    · obtain ⟨e1, e2⟩ := below_no (e := 10000) c
      rw [e1] at q0; first | exact q0 | (rw [e2]; exact q0)
end
end K43

namespace K43
open PySem PySem.Spec PyProof.Rows L2 Kk RZ
theorem pg_tupK {X : Cx} {K : PySem.W.Frag} {es : List Expr} {k : Nat} {t : TGs} {n : Nat} {pos : Pos} (hK : X.K = K) (hc : X.calm = true) (h : PGs X es t) (hn : (assignEach es X.env).length = n := by rfl) (hst : (assignEach es X.env).findIdx? (·.1) = none := by rfl) :
    PG X (.Tuple es k pos) (gTup K n t) := by subst hK; exact pg_tup hc h hn hst
abbrev gPair (K : PySem.W.Frag) (i j : Nat) : TG := gTup K 2 (gCons (gName i) (gCons (gName j) gNil))
theorem cut_one {x : V} {xs : List V} : cutV (x :: xs) (some 1) none = xs := by
  unfold cutV
  have e1 : HT.sIx (x :: xs).length 0 (some 1) = 1 := by
    show (if (1 : Int) < 0 then ((1 : Int) + ((x :: xs).length : Int)).toNat else min (1 : Int).toNat (x :: xs).length) = 1
    rw [if_neg (by decide), List.length_cons]; show min 1 (xs.length + 1) = 1; omega
  rw [e1, HT.sIx_none]
  show xs.take ((x :: xs).length - 1) = xs
  rw [List.length_cons, Nat.add_sub_cancel, List.take_length]
theorem one_cut {x : V} {xs : List V} : ¬ (HT.sIx (x :: xs).length 0 (some 1) = 0 ∧ HT.sIx (x :: xs).length (x :: xs).length none = (x :: xs).length) := fun ⟨h, _⟩ => by
  have e1 : HT.sIx (x :: xs).length 0 (some 1) = 1 := by
    show (if (1 : Int) < 0 then ((1 : Int) + ((x :: xs).length : Int)).toNat else min (1 : Int).toNat (x :: xs).length) = 1
    rw [if_neg (by decide), List.length_cons]; show min 1 (xs.length + 1) = 1; omega
  rw [e1] at h; cases h
theorem walk_zipT {K : PySem.W.Frag} {a b : Addr} {xs ys : List V} {n : Nat} (hn : n = min xs.length ys.length) : Walk (ItzT K a b) n (fun H => SqT K H a xs ∧ SqT K H b ys) (YPair (fun i => xs[i]?) (fun i => ys[i]?)) := by
  subst hn
  refine ⟨fun i _ hi q => ?_, fun _ q => ⟨xs, ys, q.1, q.2, by omega⟩, fun i H v H' _ q y => ?_⟩
  · have h1 : i < xs.length := by omega
    have h2 : i < ys.length := by omega
    exact ⟨xs, ys, xs[i], ys[i], q.1, q.2, by simp [h1], by simp [h2]⟩
  · obtain ⟨T, x, z, h1, h2, h3, h4, h5⟩ := y
    exact ⟨T, x, z, h1, h2, h3, h4 xs q.1, h5 ys q.2⟩
def formT : List (Str × List Str) := [("take", ["hand", "name"]), ("ask", ["hand"]), ("number", ["hand", "number"]), ("copy", ["hand", "hand"]), ("mix", ["hand", "hand", "hand"]), ("open", ["hand", "hand"]), ("tell", ["hand"]), ("wipe", ["hand"]), ("lay", ["slot", "hand"]), ("fetch", ["hand", "slot"]), ("clean", ["slot"])].map fun p => (Str.ofString p.1, p.2.map Str.ofString)
def frm? (k : Str) : Option (List Str) := (formT.find? fun p => p.1 == k).map (·.2)
/-- where the forms stand: a dict of the written part -/
structure Fk (K : PySem.W.Frag) (w : World) (mg : Str → Option Value) (fA : Addr) (es : Array DictEntry) (n : Nat) : Prop where
  m : mg "ORDERS" = some (.ref fA)
  d : KDict K w fA es n
  at_ : ∀ z ks, frm? z = some ks → ∃ t, PySem.W.nsIn K fA z = some (some (.ref t)) ∧ KDct K w fA z (.ref t) ∧ ∀ H, SqT K H t (ks.map V.str)
  no : ∀ z, frm? z = none → PySem.W.nsIn K fA z = some none
def formD (hh : Int) : PyData → Bool
  | .tuple (.str k :: ps) => match frm? k with
    | some ks => decide (ps.length = ks.length) && (ks.zip ps).all fun q => partD hh q.1 q.2
    | none => false
  | _ => false
theorem frm_len {k : Str} {ks : List Str} (h : frm? k = some ks) : ks.length ≤ 3 := by
  unfold frm? at h
  cases e : formT.find? (fun p => p.1 == k) with
  | none => rw [e] at h; cases h
  | some p =>
    rw [e] at h; cases h
    exact (by decide +kernel : ∀ p ∈ formT, p.2.length ≤ 3) p (List.mem_of_find?_eq_some e)
theorem at0 {α : Type} {x : α} {xs : List α} : atI (x :: xs) 0 = some x := atI_nat (j := 0) rfl
theorem nd_kp : (["kind", "part", "hands"] : List Str).Nodup := by decide +kernel
abbrev s_form : Stmt := topS 12
theorem sc_form : FnScope ["hands", "thing", "kinds"] ["hands", "thing"] (defScope s_form) := ⟨rfl, rfl, rfl, by decide +kernel, rfl, by decide +kernel, by decide +kernel⟩
abbrev scG_form : Scope := ⟨.function, [(Str.ofString ".0", .local), (Str.ofString "kind", .local), (Str.ofString "part", .local), (Str.ofString "hands", .free), (Str.ofString "part_is_right", .globalImplicit)], true, false, []⟩
theorem gxn_form : GxN ["hands", "thing", "kinds"] (defScope s_form) scG_form ["kind", "part", "hands"] 2 [0] := ⟨rfl, fun i j h => by
  match i, h with
  | 0, h => cases h; exact ⟨"hands", rfl, rfl, by decide +kernel, .inl (by decide +kernel)⟩
  | i + 1, h => simp at h⟩
theorem gxs_form : GxS (defScope s_form) scG_form := ⟨rfl, rfl, by decide +kernel, by decide +kernel, by decide +kernel⟩
section
variable {P : Program} {w : World} {K : PySem.W.Frag} {mg : Str → Option Value} {base : Heap}
def spForm (K : PySem.W.Frag) (T T3 : Addr) : Sp := fun vs H Q _ => ∃ (hh : Int) (v : V) (d : PyData), vs = [.int hh, v] ∧ Dp K H v d ∧ Dk d ∧ GxR.TabG H T ∧ GxR.TabG H T3 ∧ ∀ H', Ex [] H H' → Q (.bl (formD hh d)) H'
theorem ok_form {f c T T3 fA f1 : Addr} {d1 : FuncData} {es : Array DictEntry} {n k : Nat} {oc : Value} {od an : Option Addr} {osl : Array (Option Value)} {kV doc pm ct : Value}
    (lk : K.lookup f = some ⟨oc, od, .func (PySem.W.fnOf "is_order" "is_order" (defArgs s_form) (defBody s_form) (defScope s_form) .none kV doc pm an (.ref c) ct), osl⟩) (hc : PySem.W.codeIn K (.ref c) "is_order" = true)
    (tab : GxR.TabB base mg c T3) (C_part : Cl P w K mg base k "part_is_right" ["kind", "part", "hands"] (spPart K T) f1 d1) (M : Fk K w mg fA es n)
    (m_isinstance : mg "isinstance" = none) (m_tuple : mg "tuple" = none) (m_str : mg "str" = none) (m_all : mg "all" = none) (m_len : mg "len" = none) (m_zip : mg "zip" = none) :
    FnOk P w K mg base CX0 (k + 3) f (PySem.W.fnOf "is_order" "is_order" (defArgs s_form) (defBody s_form) (defScope s_form) .none kV doc pm an (.ref c) ct) ["hands", "thing"] (spForm K T T3) := by
  refine okC lk hc sc_form (fun vs H Q E h => ?_) (fun A outer s H vs Q E hr h => ?_)
  · obtain ⟨hh, v, d, rfl, _⟩ := h; rfl
  · obtain ⟨hh, v, d, rfl, hd, dk, hT, hT3, q⟩ := h
    refine ⟨_, pss_cons (ps_if (PW.pt (pw_or (pt_not (pt_val (pe_callB call_isi (by rfl) m_isinstance (by decide +kernel) (pa_cons (pv 1) (pa_cons (pe_bltn (v := .ty "tuple") (by rfl) m_tuple (by decide +kernel) rfl) pa_nil)))))
        (pw_or1 (pt_cmpR op_eq (pe_callB call_len_seq (by rfl) m_len PySem.boot_len (pa_cons (pv 1) pa_nil)) pe_int (nomark _))))) (pss_one (ps_ret pe_bl)) pss_nil)
      (pss_cons (ps_if (PW.pt (pw_or (pt_not (pt_val (pe_callB call_isi (by rfl) m_isinstance (by decide +kernel) (pa_cons (pe_ix ix_tup (pv 1) pe_int (fun _ _ => rfl)) (pa_cons (pe_bltn (v := .ty "str") (by rfl) m_str (by decide +kernel) rfl) pa_nil)))))
        (pw_or1 (pt_cmpR (op_notIn_kd M.d) (pe_ix ix_tup (pv 1) pe_int (fun _ _ => rfl)) (pe_glob (v := .ref fA) rfl M.m rfl) rfl)))) (pss_one (ps_ret pe_bl)) pss_nil)
      (pss_cons (ps_set (i := 2) sc_form.nd rfl (.inl rfl) (pe_ix ix_kdict (pe_glob (v := .ref fA) rfl M.m rfl) (pe_ix ix_tup (pv 1) pe_int (fun _ _ => rfl)) (fun _ _ => rfl)))
      (pss_cons (ps_if (pt_cmpR op_ne (pe_callB call_len_seq (by rfl) m_len PySem.boot_len (pa_cons (pv 1) pa_nil)) (pe_op op_add (pe_callB call_len_seq (by rfl) m_len PySem.boot_len (pa_cons (pv 2) pa_nil)) pe_int) (nomark _)) (pss_one (ps_ret pe_bl)) pss_nil)
      (pss_one (ps_ret (pe_allG (N' := ["kind", "part", "hands"]) (nt := 2) (js := [0]) (g := gPair K 0 1) (tt := tYes)
          ⟨tab, rfl, gxs_form, gxn_form,
            pi_zipA (by rfl) m_zip (pa_cons (pv 2) (pa_cons (pe_slice sl_tupA (pv 1) (po_some pe_int) po_none) pa_nil)),
            fun _ _ _ _ _ _ _ _ => pg_tupK rfl rfl (pgs_cons (pg_name (i := 0) nd_kp rfl (.inl rfl)) (pgs_cons (pg_name (i := 1) nd_kp rfl (.inl rfl)) pgs_nil)), fun _ _ _ _ _ _ _ _ => pts_nil,
            fun _ _ _ _ _ _ _ r => pe_call C_part.g r (by rfl) C_part.m C_part.k C_part.b .nil pass0 (pa_cons (pv 0) (pa_cons (pv 1) (pa_cons (pv 2) pa_nil))), fun _ => rfl⟩ hr (by rfl) m_all)))))), ?_⟩
    have no : formD hh d = false → Q (.bl false) H := fun e => by
      have q2 := q H .refl
      rw [e] at q2; exact q2
    refine ⟨v, rfl, v, .ty "tuple", .type (tyN d), .type "tuple", tupD d, rfl, .ty "tuple", dp_ty hd, kit_ty (kit_tup d), _, rfl, ite2 (fun e => ?_) fun e => ?_⟩
    · refine iteT (no ?_)
      cases d <;> first | rfl | cases e
    obtain ⟨ds, rfl⟩ : ∃ ds, d = .tuple ds := by cases d <;> first | exact ⟨_, rfl⟩ | exact absurd rfl e
    cases hd with
    | tup hs ha =>
      rename_i a xs
      cases dk with
      | tup hl hk =>
        have xl := dpAll_len ha
        refine ⟨.ref a, rfl, a, xs, rfl, .inr hs, rfl, _, rfl, ite2 (fun e2 => ?_) fun e2 => ?_⟩
        · have e3 := V.int.inj (of_decide_eq_true e2)
          have e4 : ds = [] := List.length_eq_zero_iff.mp (by omega)
          exact no (by rw [e4]; rfl)
        cases ha with
        | nil => exact absurd (decide_eq_true rfl) e2
        | cons ha1 ha2 =>
          rename_i x0 rest d0 dr
          refine ⟨.ref a, rfl, a, _, 0, x0, rfl, rfl, hs, at0, x0, .ty "str", .type (tyN d0), .type "str", strD d0, rfl, .ty "str", dp_ty ha1, kit_ty (kit_str d0), _, rfl, ite2 (fun e3 => ?_) fun e3 => ?_⟩
          · refine iteT (no ?_)
            cases d0 <;> first | rfl | cases e3
          obtain ⟨kd, rfl⟩ : ∃ kd, d0 = .str kd := by cases d0 <;> first | exact ⟨_, rfl⟩ | exact absurd rfl e3
          cases ha1
          cases hf : frm? kd with
          | none =>
            refine ⟨.ref a, rfl, a, _, 0, .str kd, rfl, rfl, hs, at0, kd, none, rfl, rfl, M.no kd hf, _, rfl, iteT (no ?_)⟩
            show (match frm? kd with | some ks => _ | none => false) = false
            rw [hf]
          | some ks =>
            obtain ⟨t, h1, h2, h3⟩ := M.at_ kd ks hf
            have kl := frm_len hf
            have rl := dpAll_len ha2
            have ef : formD hh (.tuple (.str kd :: dr)) = (decide (dr.length = ks.length) && (ks.zip dr).all fun q => partD hh q.1 q.2) := by
              show (match frm? kd with | some ks => _ | none => false) = _
              rw [hf]
            refine ⟨.ref a, rfl, a, _, 0, .str kd, rfl, rfl, hs, at0, kd, some (.ref t), rfl, rfl, h1, _, rfl, iteF ?_⟩
            refine ⟨.ref a, rfl, a, _, 0, .str kd, rfl, rfl, hs, at0, fA, kd, .ref t, rfl, rfl, h2, ?_⟩
            refine ⟨.ref a, rfl, a, _, rfl, .inr hs, .ref t, rfl, t, ks.map V.str, rfl, .inr (h3 _), _, _, rfl, rfl, rfl, _, rfl, ite2 (fun e4 => ?_) fun e4 => ?_⟩
            · refine no ?_
              rw [ef]
              have e5 : ¬ dr.length = ks.length := fun z => by
                rw [List.length_map, List.length_cons, rl, z] at e4
                revert e4
                simp
              rw [decide_eq_false e5]; rfl
            · have e5 : dr.length = ks.length := by
                refine Decidable.byContradiction fun z => e4 ?_
                rw [List.length_map, List.length_cons, rl]
                refine (Bool.not_eq_true' _).mpr (decide_eq_false fun z2 => z ?_)
                have := V.int.inj z2
                omega
              refine ⟨.ref t, rfl, .ref a, rfl, 1, rfl, a, _, rfl, hs, fun z => absurd z one_cut, fun _ B nB => ?_⟩
              rw [cut_one]
              have x1 : Ex [] H (upd H B (.tup rest)) := .new nB
              refine ⟨t, B, ks.map V.str, rest, rfl, .inr ⟨h3 _, .of upd_same, x1.t _ hT3, fun H2 tb => gx_it (walk_zipT (xs := ks.map V.str) (ys := rest) rfl)
                (fun i ys H' => ys.length = i ∧ Ex [] (upd H B (.tup rest)) H' ∧ (((ks.zip dr).take i).all fun q => partD hh q.1 q.2) = true) ⟨rfl, .tabbed (x1.t _ hT3) tb, rfl⟩
                (fun i ys H' _ p => ⟨h3 _, .of (p.2.1.tup upd_same)⟩) (fun i x ys H3 H4 hi p y => ?_) (fun ys H' p => ?_)⟩⟩
              · obtain ⟨T9, x9, y9, rfl, n9, rfl, hx9, hy9⟩ := y
                obtain ⟨pl, p1, p2⟩ := p
                have hx9 : (ks.map V.str)[i]? = some x9 := hx9
                have hy9 : rest[i]? = some y9 := hy9
                rw [List.getElem?_map] at hx9
                cases hk9 : ks[i]? with
                | none => rw [hk9] at hx9; cases hx9
                | some k9 =>
                  rw [hk9] at hx9
                  cases hx9
                  obtain ⟨d9, hd9, dp9⟩ := dpAll_get ha2 hy9
                  have m9 : d9 ∈ dr := List.mem_of_getElem? hd9
                  have x9 : Ex [] H3 (upd H3 T9 (.tup [.str k9, y9])) := .new n9
                  have x3 : Ex [] H _ := (x1.trans p1).trans x9
                  refine ⟨T9, [.str k9, y9], rfl, .of upd_same, rfl, _, _, rfl, _, _, rfl, rfl, ?_⟩
                  refine ⟨fun j v e => ?_, ?_⟩
                  · match j, e with
                    | 2, e => exact e
                    | 0, e => cases e
                    | 1, e => cases e
                    | j + 3, e => simp [gst] at e
                  refine ⟨.str k9, rfl, y9, rfl, .int hh, rfl, k9, y9, d9, hh, rfl, dp_ex x3 dp9, hk d9 (List.mem_cons_of_mem _ m9), x3.t _ hT, fun H5 e5 => ⟨by rw [sizeLine_eq]; rw [List.length_map] at hi; omega, _, rfl, ite2 (fun b => ?_) fun b => ?_⟩⟩
                  · refine ⟨by rw [List.length_append, List.length_singleton, pl], (p1.trans x9).trans e5, ?_⟩
                    have ez : (ks.zip dr)[i]? = some (k9, d9) := by rw [List.getElem?_zip_eq_some]; exact ⟨hk9, hd9⟩
                    rw [List.take_add_one, ez, List.all_append, p2]
                    show (true && (partD hh k9 d9 && true)) = true
                    rw [b]; rfl
                  · have q2 := q H5 (x3.trans e5)
                    have e7 : ((ks.zip dr).all fun q => partD hh q.1 q.2) = false := by
                      rw [List.all_eq_false]
                      have ez : (ks.zip dr)[i]? = some (k9, d9) := by rw [List.getElem?_zip_eq_some]; exact ⟨hk9, hd9⟩
                      exact ⟨(k9, d9), List.mem_of_getElem? ez, b⟩
                    rw [ef, e7, Bool.and_false] at q2
                    exact q2
              · obtain ⟨pl, p1, p2⟩ := p
                have e6 : min (ks.map V.str).length rest.length = (ks.zip dr).length := by
                  rw [List.length_map, List.length_zip, rl]
                rw [e6, List.take_length] at p2
                have q2 := q H' (x1.trans p1)
                rw [ef, p2, decide_eq_true e5] at q2
                exact q2
end
end K43

namespace K43
open PySem PySem.Spec PyProof.Rows L2 Kk RZ
abbrev s_code : Stmt := topS 13
theorem sc_code : FnScope ["hands", "thing"] ["hands", "thing"] (defScope s_code) := ⟨rfl, rfl, rfl, by decide +kernel, rfl, by decide +kernel, by decide +kernel⟩
abbrev scG_code : Scope := ⟨.function, [(Str.ofString ".0", .local), (Str.ofString "order", .local), (Str.ofString "hands", .free), (Str.ofString "is_order", .globalImplicit)], true, false, []⟩
theorem gxn_code : GxN ["hands", "thing"] (defScope s_code) scG_code ["order", "hands"] 1 [0] := ⟨rfl, fun i j h => by
  match i, h with
  | 0, h => cases h; exact ⟨"hands", rfl, rfl, by decide +kernel, .inl (by decide +kernel)⟩
  | i + 1, h => simp at h⟩
theorem gxs_code : GxS (defScope s_code) scG_code := ⟨rfl, rfl, by decide +kernel, by decide +kernel, by decide +kernel⟩
theorem nd_oh : (["order", "hands"] : List Str).Nodup := by decide +kernel
def codeD (hh : Int) : PyData → Bool
  | .tuple ds => ds.all (formD hh)
  | _ => false
section
variable {P : Program} {w : World} {K : PySem.W.Frag} {mg : Str → Option Value} {base : Heap}
def spCode (K : PySem.W.Frag) (T T3 T4 : Addr) : Sp := fun vs H Q _ => ∃ (hh : Int) (v : V) (d : PyData), vs = [.int hh, v] ∧ Dp K H v d ∧ Dk d ∧ GxR.TabG H T ∧ GxR.TabG H T3 ∧ GxR.TabG H T4 ∧ ∀ H', Ex [] H H' → Q (.bl (codeD hh d)) H'
theorem ok_code {f c T T3 T4 f1 : Addr} {d1 : FuncData} {k : Nat} {oc : Value} {od an : Option Addr} {osl : Array (Option Value)} {kV doc pm ct : Value}
    (lk : K.lookup f = some ⟨oc, od, .func (PySem.W.fnOf "is_code" "is_code" (defArgs s_code) (defBody s_code) (defScope s_code) .none kV doc pm an (.ref c) ct), osl⟩) (hc : PySem.W.codeIn K (.ref c) "is_code" = true)
    (tab : GxR.TabB base mg c T4) (C_order : Cl P w K mg base k "is_order" ["hands", "thing"] (spForm K T T3) f1 d1)
    (m_isinstance : mg "isinstance" = none) (m_tuple : mg "tuple" = none) (m_all : mg "all" = none) :
    FnOk P w K mg base CX0 (k + 3) f (PySem.W.fnOf "is_code" "is_code" (defArgs s_code) (defBody s_code) (defScope s_code) .none kV doc pm an (.ref c) ct) ["hands", "thing"] (spCode K T T3 T4) := by
  refine okC lk hc sc_code (fun vs H Q E h => ?_) (fun A outer s H vs Q E hr h => ?_)
  · obtain ⟨hh, v, d, rfl, _⟩ := h; rfl
  · obtain ⟨hh, v, d, rfl, hd, dk, hT, hT3, hT4, q⟩ := h
    refine ⟨_, pss_one (ps_ret (pe_and (pe_callB call_isi (by rfl) m_isinstance (by decide +kernel) (pa_cons (pv 1) (pa_cons (pe_bltn (v := .ty "tuple") (by rfl) m_tuple (by decide +kernel) rfl) pa_nil)))
        (pe_one (pe_allG (N' := ["order", "hands"]) (nt := 1) (js := [0]) (g := gName 0) (tt := tYes)
          ⟨tab, rfl, gxs_code, gxn_code, pi_tup (pv 1), fun _ _ _ _ _ _ _ _ => pg_name (i := 0) nd_oh rfl (.inl rfl), fun _ _ _ _ _ _ _ _ => pts_nil,
            fun _ _ _ _ _ _ _ r => pe_call C_order.g r (by rfl) C_order.m C_order.k C_order.b .nil pass0 (pa_cons (pv 1) (pa_cons (pv 0) pa_nil)), fun _ => rfl⟩ hr (by rfl) m_all)))), ?_⟩
    refine ⟨v, rfl, v, .ty "tuple", .type (tyN d), .type "tuple", tupD d, rfl, .ty "tuple", dp_ty hd, kit_ty (kit_tup d), _, rfl, ite2 (fun e => ?_) fun e => ?_⟩
    · obtain ⟨ds, rfl⟩ : ∃ ds, d = .tuple ds := by cases d <;> first | exact ⟨_, rfl⟩ | cases e
      cases hd with
      | tup hs ha =>
        rename_i a xs
        cases dk with
        | tup hl hk =>
          have xl := dpAll_len ha
          refine ⟨.ref a, rfl, a, rfl, ⟨xs, hs⟩, hT4, fun H2 tb => gx_it (walk_tup (xs := xs)) (fun i ys H' => ys.length = i ∧ Ex [] H H' ∧ (ds.take i).all (formD hh) = true) ⟨rfl, .tabbed hT4 tb, rfl⟩ (fun i ys H' _ p => p.2.1.seqT hs) (fun i x ys H3 H4 hi p y => ?_) (fun ys H' p => ?_)⟩
          · obtain ⟨rfl, hx⟩ := y
            obtain ⟨pl, p1, p2⟩ := p
            obtain ⟨dx, hdx, dpx⟩ := dpAll_get ha hx
            have mx : dx ∈ ds := List.mem_of_getElem? hdx
            refine ⟨fun j v e => ?_, ?_⟩
            · match j, e with
              | 1, e => exact e
              | 0, e => cases e
              | j + 2, e => simp [gst] at e
            · refine ⟨.int hh, rfl, x, rfl, hh, x, dx, rfl, dp_ex p1 dpx, hk dx mx, p1.t _ hT, p1.t _ hT3, fun H5 e5 => ⟨by rw [sizeLine_eq]; omega, _, rfl, ite2 (fun b => ?_) fun b => ?_⟩⟩
              · refine ⟨by rw [List.length_append, List.length_singleton, pl], p1.trans e5, ?_⟩
                rw [List.take_add_one, hdx, List.all_append, p2]
                show (true && (formD hh dx && true)) = true
                rw [b]; rfl
              · have e2 : codeD hh (.tuple ds) = false := by
                  show ds.all (formD hh) = false
                  rw [List.all_eq_false]
                  exact ⟨dx, mx, b⟩
                have q2 := q H5 (p1.trans e5)
                rw [e2] at q2; exact q2
          · obtain ⟨pl, p1, p2⟩ := p
            have ea : codeD hh (.tuple ds) = true := by
              rw [xl, List.take_length] at p2; exact p2
            have q2 := q H' p1
            rw [ea] at q2; exact q2
    · have e2 : codeD hh d = false := by cases d <;> first | rfl | exact absurd rfl e
      have e3 : tupD d = false := by cases d <;> first | rfl | exact absurd rfl e
      have := q H .refl
      rw [e2] at this; first | exact this | (rw [e3]; exact this)
end
end K43

namespace K43
open PySem PySem.Spec PyProof.Rows L2 Kk RZ
abbrev s_cell : Stmt := topS 15
abbrev s_is : Stmt := topS 16
abbrev s_begin : Stmt := topS 17
abbrev s_draw : Stmt := topS 18
abbrev s_one : Stmt := topS 19
abbrev s_shapes : Stmt := topS 20
theorem sc_cell : FnScope ["_law_script", "_law_k"] ["_law_script", "_law_k"] (defScope s_cell) := ⟨rfl, rfl, rfl, by decide +kernel, rfl, by decide +kernel, by decide +kernel⟩
theorem sc_is : FnScope ["_law_found", "_law_due_here"] ["_law_found", "_law_due_here"] (defScope s_is) := ⟨rfl, rfl, rfl, by decide +kernel, rfl, by decide +kernel, by decide +kernel⟩
theorem sc_begin : FnScope ["_law_cell", "_law_seed"] ["_law_cell"] (defScope s_begin) := ⟨rfl, rfl, rfl, by decide +kernel, rfl, by decide +kernel, by decide +kernel⟩
theorem sc_draw : FnScope ["_law_state", "_law_many", "_law_got", "_law_number"] ["_law_state", "_law_many"] (defScope s_draw) := ⟨rfl, rfl, rfl, by decide +kernel, rfl, by decide +kernel, by decide +kernel⟩
theorem sc_one : FnScope ["_law_state", "_law_row"] ["_law_state", "_law_row"] (defScope s_one) := ⟨rfl, rfl, rfl, by decide +kernel, rfl, by decide +kernel, by decide +kernel⟩
theorem sc_shapes : FnScope [] [] (defScope s_shapes) := ⟨rfl, rfl, rfl, by decide +kernel, rfl, by decide +kernel, by decide +kernel⟩
/-- the state of the draws -/
def St2 (H : Hp) (d : Addr) : Prop := ∃ a b : Int, H d = some (.lst [.int a, .int b]) ∧ 0 ≤ a ∧ 0 ≤ b ∧ b < 4294967296
theorem St2.ex {H H' : Hp} {d : Addr} {xs : List Addr} (h : St2 H d) (e : Ex xs H H') (m : d ∉ xs) : St2 H' d := by
  obtain ⟨a, b, h, r⟩ := h
  exact ⟨a, b, e.lst h m, r⟩
theorem St2.some {H : Hp} {d : Addr} (h : St2 H d) : ∃ xs, H d = some (.lst xs) := let ⟨_, _, h, _⟩ := h; ⟨_, h⟩
theorem St2.ne {H : Hp} {d p : Addr} (h : St2 H d) (n : H p = none) : p ≠ d := fun z => by
  obtain ⟨xs, h⟩ := h.some
  rw [z, h] at n; cases n
theorem atN {α : Type} {xs : List α} {j : Nat} {v : α} (h : xs[j]? = some v) : atI xs (j : Int) = some v := atI_nat h
theorem atZ {α : Type} {xs : List α} {v : Int} (h0 : 0 ≤ v) (h1 : v < xs.length) : ∃ x, atI xs v = some x ∧ xs[v.toNat]? = some x := by
  have l : v.toNat < xs.length := by omega
  refine ⟨xs[v.toNat], ?_, by simp [l]⟩
  have := atI_nat (List.getElem?_eq_getElem l)
  rwa [Int.toNat_of_nonneg h0] at this
section
variable {P : Program} {w : World} {K : PySem.W.Frag} {mg : Str → Option Value} {base : Heap}
def spCell (K : PySem.W.Frag) : Sp := fun vs H Q _ => ∃ (s : Addr) (ns : List Int) (k : Nat), vs = [.ref s, .int k] ∧ SqL K H s (ns.map V.int) ∧ ∀ n, Q (.int n) H
theorem ok_cell {f : Addr} {fd : FuncData} {k : Nat} (F : Fun K "_law_cell_at" "_law_cell_at" s_cell f fd) (m_len : mg "len" = none) : FnOk P w K mg base CX0 (k + 1) f fd ["_law_script", "_law_k"] (spCell K) := by
  refine F.ok sc_cell (fun vs H Q E h => ?_) (fun cdv A outer s H vs Q E hr h => ?_)
  · obtain ⟨s, ns, k, rfl, _⟩ := h; rfl
  · obtain ⟨s, ns, k, rfl, hS, q⟩ := h
    refine ⟨_, (pss_cons (ps_if (pt_cmpR op_lt (pv 1) (pe_callB call_len_seq (by rfl) m_len PySem.boot_len (pa_cons (pv 0) pa_nil)) (nomark _)) (pss_one (ps_ret (pe_ix ix_list (pv 0) (pv 1) (fun _ _ => rfl)))) pss_nil)
      (pss_one (ps_ret pe_int))), ?_⟩
    refine ⟨.int k, rfl, .ref s, rfl, s, _, rfl, .inl hS, _, _, rfl, rfl, _, rfl, ite2 (fun e => ?_) (fun e => ?_)⟩
    · have e1 : k < ns.length := by
        have e2 := of_decide_eq_true e
        rw [List.length_map] at e2; omega
      have e3 : (ns.map V.int)[k]? = some (.int ns[k]) := by rw [List.getElem?_map, List.getElem?_eq_getElem e1]; rfl
      exact ⟨.ref s, rfl, .int k, rfl, s, _, _, _, rfl, rfl, hS, atN e3, q _⟩
    · exact q 0
def spIs : Sp := fun vs H Q _ => ∃ b c : Bool, vs = [.bl b, .bl c] ∧ Q (.bl (decide (b = c))) H
theorem ok_is {f : Addr} {fd : FuncData} {k : Nat} (F : Fun K "_law_is" "_law_is" s_is f fd) (m_isinstance : mg "isinstance" = none) (m_bool : mg "bool" = none) : FnOk P w K mg base CX0 (k + 1) f fd ["_law_found", "_law_due_here"] spIs := by
  refine F.ok sc_is (fun vs H Q E h => ?_) (fun cdv A outer s H vs Q E hr h => ?_)
  · obtain ⟨b, c, rfl, _⟩ := h; rfl
  · obtain ⟨b, c, rfl, q⟩ := h
    refine ⟨_, (pss_one (ps_ret (pe_and (pe_callB call_isi (by rfl) m_isinstance (by decide +kernel) (pa_cons (pv 0) (pa_cons (pe_bltn (v := .ty "bool") (by rfl) m_bool (by decide +kernel) rfl) pa_nil))) (pe_one (pe_cmpR op_eq (pv 0) (pv 1) (nomark _)))))), ?_⟩
    refine ⟨.bl b, rfl, .bl b, .ty "bool", .type "bool", .type "bool", true, rfl, .ty "bool", .base (.bl b), kit_ty (by decide +kernel), true, rfl, iteT ?_⟩
    refine ⟨.bl b, rfl, .bl c, rfl, rfl, ?_⟩
    have e : decide (V.bl b = V.bl c) = decide (b = c) := by
      rw [decide_eq_decide]
      exact ⟨fun z => V.bl.inj z, fun z => by rw [z]⟩
    rw [e]; exact q
def spBegin : Sp := fun vs H Q _ => ∃ n : Int, vs = [.int n] ∧ ∀ p H', H p = none → Ex [] H H' → St2 H' p → Q (.ref p) H'
theorem ok_begin {f : Addr} {fd : FuncData} {k : Nat} (F : Fun K "_law_begin" "_law_begin" s_begin f fd) : FnOk P w K mg base CX0 (k + 1) f fd ["_law_cell"] spBegin := by
  refine F.ok sc_begin (fun vs H Q E h => ?_) (fun cdv A outer s H vs Q E hr h => ?_)
  · obtain ⟨n, rfl, _⟩ := h; rfl
  · obtain ⟨n, rfl, q⟩ := h
    refine ⟨_, (pss_cons (ps_set (i := 1) sc_begin.nd rfl (.inl rfl) (pe_op op_add (pe_op op_add (pe_op op_mod (pv 0) pe_int) (pe_op op_mod (pe_op op_fdivW (pv 0) pe_int) pe_int)) pe_int))
      (pss_cons (ps_if (pt_cmpR op_lt (pv 0) (pe_op op_pow pe_int pe_int) (nomark _)) (pss_one (ps_ret (pe_lst (pa_cons pe_int (pa_cons (pv 1) pa_nil))))) pss_nil)
      (pss_one (ps_ret (pe_lst (pa_cons (pv 0) (pa_cons (pv 1) pa_nil))))))), ?_⟩
    have z1 : 0 ≤ n % 2147483647 := Int.emod_nonneg _ (by decide)
    have z2 : n % 2147483647 < 2147483647 := Int.emod_lt_of_pos _ (by decide)
    have z3 : 0 ≤ n / 2147483647 % 1000003 := Int.emod_nonneg _ (by decide)
    have z4 : n / 2147483647 % 1000003 < 1000003 := Int.emod_lt_of_pos _ (by decide)
    refine ⟨.int n, rfl, n, 2147483647, rfl, rfl, (by show (0 : Int) < 2147483647; decide), .int n, rfl, n, 2147483647, rfl, rfl, wide_div (b := 32) (by decide) (by decide) (by decide) (by decide), _, 1000003, rfl, rfl, (by show (0 : Int) < 1000003; decide), _, _, rfl, rfl, _, 3, rfl, rfl, ?_⟩
    refine ⟨.int n, rfl, 10, 18, rfl, rfl, ⟨by decide, by decide, by decide⟩, n, _, rfl, rfl, _, rfl, ite2 (fun e => ?_) (fun e => ?_)⟩
    · exact ⟨_, rfl, (by show 2 ≤ sizeLine; decide), fun p np => q p _ np (.new np) ⟨_, _, upd_same, by decide, by omega, by omega⟩⟩
    · refine ⟨.int n, rfl, _, rfl, (by show 2 ≤ sizeLine; decide), fun p np => q p _ np (.new np) ⟨_, _, upd_same, ?_, by omega, by omega⟩⟩
      refine Decidable.byContradiction fun z => e (decide_eq_true ?_)
      exact Int.lt_trans (Int.not_le.mp z) (by decide)
def spDraw : Sp := fun vs H Q _ => ∃ (d : Addr) (m : Int), vs = [.ref d, .int m] ∧ St2 H d ∧ 0 < m ∧ m < 1000000 ∧ ∀ H' v, 0 ≤ v → v < m → Ex [d] H H' → St2 H' d → Q (.int v) H'
theorem ok_draw {f : Addr} {fd : FuncData} {k : Nat} (F : Fun K "_law_draw" "_law_draw" s_draw f fd) : FnOk P w K mg base CX0 (k + 1) f fd ["_law_state", "_law_many"] spDraw := by
  refine F.ok sc_draw (fun vs H Q E h => ?_) (fun cdv A outer s H vs Q E hr h => ?_)
  · obtain ⟨d, m, rfl, _⟩ := h; rfl
  · obtain ⟨d, m, rfl, ⟨a, b, hd, ha, hb, hb2⟩, hm, hm2, q⟩ := h
    refine ⟨_, (pss_cons (ps_if (pt_cmpR op_gt (pe_ix ix_list (pv 0) pe_int (fun _ _ => rfl)) pe_int (nomark _)) (pss_cons (ps_set (i := 2) sc_draw.nd rfl (.inl rfl) (pe_op op_mod (pe_ix ix_list (pv 0) pe_int (fun _ _ => rfl)) (pv 1)))
      (pss_cons (ps_asg (pe_op op_fdiv (pe_ix ix_list (pv 0) pe_int (fun _ _ => rfl)) (pv 1)) (pg_sub (pv 0) pe_int set_list))
      (pss_one (ps_ret (pv 2))))) pss_nil)
      (pss_cons (ps_set (i := 3) sc_draw.nd rfl (.inl rfl) (pe_op op_mod (pe_op op_add (pe_op op_mul (pe_ix ix_list (pv 0) pe_int (fun _ _ => rfl)) pe_int) pe_int) pe_int))
      (pss_cons (ps_asg (pe_op op_mod (pe_op op_add (pe_op op_mul (pv 3) pe_int) pe_int) pe_int) (pg_sub (pv 0) pe_int set_list))
      (pss_one (ps_ret (pe_op op_mod (pe_op op_fdiv (pe_op op_mod (pe_op op_add (pe_op op_mul (pe_ix ix_list (pv 0) pe_int (fun _ _ => rfl)) pe_int) pe_int) pe_int) pe_int) (pv 1))))))), ?_⟩
    have hL : SqL K H d [.int a, .int b] := .of hd
    refine ⟨.ref d, rfl, d, _, 0, .int a, rfl, rfl, hL, rfl, a, 0, rfl, rfl, _, rfl, ite2 (fun e => ?_) (fun e => ?_)⟩
    · refine ⟨.ref d, rfl, d, _, 0, .int a, rfl, rfl, hL, rfl, .int m, rfl, a, m, rfl, rfl, hm, ?_⟩
      refine ⟨.ref d, rfl, d, _, 0, .int a, rfl, rfl, hL, rfl, .int m, rfl, a, m, rfl, rfl, ⟨hm, by omega⟩, .ref d, rfl, d, _, 0, 0, rfl, rfl, hd, rfl, .int (a % m), rfl, ?_⟩
      exact q _ _ (Int.emod_nonneg _ (by omega)) (Int.emod_lt_of_pos _ hm) (.put hd nt_lst (by simp)) ⟨_, b, upd_same, Int.ediv_nonneg ha (by omega), hb, hb2⟩
    · have z1 : 0 ≤ (b * 48271 + 11) % 2147483629 := Int.emod_nonneg _ (by decide)
      have z2 : (b * 48271 + 11) % 2147483629 < 2147483629 := Int.emod_lt_of_pos _ (by decide)
      refine ⟨.ref d, rfl, d, _, 1, .int b, rfl, rfl, hL, rfl, b, 48271, rfl, rfl, .inr ⟨by decide, by decide⟩, _, 11, rfl, rfl, _, 2147483629, rfl, rfl, (by show (0 : Int) < 2147483629; decide), ?_⟩
      let r := (b * 48271 + 11) % 2147483629
      have y1 : 0 ≤ (r * 69621 + 7) % 2147483587 := Int.emod_nonneg _ (by decide)
      have y2 : (r * 69621 + 7) % 2147483587 < 2147483587 := Int.emod_lt_of_pos _ (by decide)
      refine ⟨_, rfl, r, 69621, rfl, rfl, .inr ⟨by decide, by decide⟩, _, 7, rfl, rfl, _, 2147483587, rfl, rfl, (by show (0 : Int) < 2147483587; decide), .ref d, rfl, d, _, 1, 1, rfl, rfl, hd, rfl, ?_⟩
      let t := (r * 69621 + 7) % 2147483587
      have x1 : Ex [d] H (upd H d (.lst [.int a, .int t])) := .put hd nt_lst (by simp)
      have hL2 : SqL K (upd H d (.lst [.int a, .int t])) d [.int a, .int t] := .of upd_same
      refine ⟨.ref d, rfl, d, _, 1, .int t, rfl, rfl, hL2, rfl, t, 16807, rfl, rfl, .inr ⟨by decide, by decide⟩, _, 3, rfl, rfl, _, 2147483579, rfl, rfl, (by show (0 : Int) < 2147483579; decide), _, 8, rfl, rfl, ⟨by decide, by decide⟩, .int m, rfl, _, m, rfl, rfl, hm, ?_⟩
      exact q _ _ (Int.emod_nonneg _ (by omega)) (Int.emod_lt_of_pos _ hm) x1 ⟨a, t, upd_same, ha, y1, by omega⟩
def spOne (K : PySem.W.Frag) : Sp := fun vs H Q _ => ∃ (d r : Addr) (xs : List V), vs = [.ref d, .ref r] ∧ St2 H d ∧ r ≠ d ∧ SqL K H r xs ∧ 0 < xs.length ∧ xs.length < 1000 ∧ ∀ (H' : Hp) (i : Nat) (x : V), xs[i]? = some x → Ex [d] H H' → St2 H' d → Q x H'
theorem ok_one {f f1 : Addr} {fd d1 : FuncData} {k : Nat} (F : Fun K "_law_one" "_law_one" s_one f fd) (C__law_draw : Cl P w K mg base k "_law_draw" ["_law_state", "_law_many"] spDraw f1 d1) (m_len : mg "len" = none) : FnOk P w K mg base CX0 (k + 1) f fd ["_law_state", "_law_row"] (spOne K) := by
  refine F.ok sc_one (fun vs H Q E h => ?_) (fun cdv A outer s H vs Q E hr h => ?_)
  · obtain ⟨d, r, xs, rfl, _⟩ := h; rfl
  · obtain ⟨d, r, xs, rfl, hd, hne, hR, h1, h2, q⟩ := h
    refine ⟨_, (pss_one (ps_ret (pe_ix ix_list (pv 1) (pe_call C__law_draw.g hr (by rfl) C__law_draw.m C__law_draw.k C__law_draw.b .nil pass0 (pa_cons (pv 0) (pa_cons (pe_callB call_len_seq (by rfl) m_len PySem.boot_len (pa_cons (pv 1) pa_nil)) pa_nil))) (fun _ _ => rfl)))), ?_⟩
    refine ⟨.ref r, rfl, .ref d, rfl, .ref r, rfl, r, xs, rfl, .inl hR, d, _, rfl, hd, by omega, by omega, fun H' v h3 h4 x s2 => ?_⟩
    obtain ⟨y, e1, e2⟩ := atZ h3 h4
    exact ⟨r, xs, v, y, rfl, rfl, x.seqL hR (by simp [hne]), e1, q H' _ y e2 x s2⟩
def shT : List (Str × Str) := [("take", "hw"), ("ask", "h"), ("number", "hn"), ("copy", "hh"), ("mix", "hhh"), ("open", "hh"), ("tell", "h"), ("wipe", "h"), ("lay", "sh"), ("fetch", "hs"), ("clean", "s")].map fun p => (Str.ofString p.1, Str.ofString p.2)
def shKV : List (Key × V) := shT.map fun p => (Sum.inr p.1, .str p.2)
def spShapes : Sp := fun vs H Q _ => vs = [] ∧ ∀ p, H p = none → Q (.ref p) (upd H p (.dK shKV))
theorem ok_shapes {f : Addr} {fd : FuncData} {k : Nat} (F : Fun K "_law_shapes" "_law_shapes" s_shapes f fd) : FnOk P w K mg base CX0 (k + 1) f fd [] spShapes := by
  refine F.ok sc_shapes (fun vs H Q E h => ?_) (fun cdv A outer s H vs Q E hr h => ?_)
  · obtain ⟨rfl, _⟩ := h; rfl
  · obtain ⟨rfl, q⟩ := h
    refine ⟨_, (pss_one (ps_ret (pe_disp (pps_cons pe_str pe_str (pps_cons pe_str pe_str (pps_cons pe_str pe_str (pps_cons pe_str pe_str (pps_cons pe_str pe_str (pps_cons pe_str pe_str (pps_cons pe_str pe_str (pps_cons pe_str pe_str (pps_cons pe_str pe_str (pps_cons pe_str pe_str (pps_cons pe_str pe_str pps_nil))))))))))) (by rfl) (by rfl) (fun z => by cases z) (by decide)))), ?_⟩
    intro p np
    refine ⟨upd_same, shKV, rfl, by decide, ?_⟩
    have e1 : mergeK [] shKV = shKV := by decide +kernel
    have e2 : upd (upd H p (.dK [])) p (.dK shKV) = upd H p (.dK shKV) := by
      funext b
      by_cases z : b = p
      · rw [z, upd_same, upd_same]
      · rw [upd_ne z, upd_ne z, upd_ne z]
    rw [e1, e2]
    exact q p np
end
end K43

namespace Kk
open PySem PySem.Spec PyProof.Rows L2
/-! data whose lists stand nowhere in S: what changes only S leaves it -/
mutual
inductive Da (K : PySem.W.Frag) (S : List Addr) (H : Hp) : V → PyData → Prop
  | non : Da K S H .non .none
  | bl (b : Bool) : Da K S H (.bl b) (.bool b)
  | int (i : Int) : Da K S H (.int i) (.int i)
  | str (x : Str) : Da K S H (.str x) (.str x)
  | lst {a : Addr} {xs : List V} {ds : List PyData} : a ∉ S → SqL K H a xs → DaAll K S H xs ds → Da K S H (.ref a) (.list ds)
  | tup {a : Addr} {xs : List V} {ds : List PyData} : SqT K H a xs → DaAll K S H xs ds → Da K S H (.ref a) (.tuple ds)
inductive DaAll (K : PySem.W.Frag) (S : List Addr) (H : Hp) : List V → List PyData → Prop
  | nil : DaAll K S H [] []
  | cons {v : V} {vs : List V} {d : PyData} {ds : List PyData} : Da K S H v d → DaAll K S H vs ds → DaAll K S H (v :: vs) (d :: ds)
end
section
variable {K : PySem.W.Frag} {S S' : List Addr} {H H' : Hp}
mutual
theorem Da.ex (e : Ex S' H H') (sub : ∀ b ∈ S', b ∈ S) : ∀ {v : V} {d : PyData}, Da K S H v d → Da K S H' v d
  | _, _, .non => .non
  | _, _, .bl b => .bl b
  | _, _, .int i => .int i
  | _, _, .str x => .str x
  | _, _, .lst n h r => .lst n (e.seqL h fun z => n (sub _ z)) (DaAll.ex e sub r)
  | _, _, .tup h r => .tup (e.seqT h) (DaAll.ex e sub r)
theorem DaAll.ex (e : Ex S' H H') (sub : ∀ b ∈ S', b ∈ S) : ∀ {vs : List V} {ds : List PyData}, DaAll K S H vs ds → DaAll K S H' vs ds
  | _, _, .nil => .nil
  | _, _, .cons h r => .cons (Da.ex e sub h) (DaAll.ex e sub r)
end
mutual
theorem Da.dp : ∀ {v : V} {d : PyData}, Da K S H v d → Dp K H v d
  | _, _, .non => .non
  | _, _, .bl b => .bl b
  | _, _, .int i => .int i
  | _, _, .str x => .str x
  | _, _, .lst _ h r => .lst h (DaAll.dp r)
  | _, _, .tup h r => .tup h (DaAll.dp r)
theorem DaAll.dp : ∀ {vs : List V} {ds : List PyData}, DaAll K S H vs ds → DpAll K H vs ds
  | _, _, .nil => .nil
  | _, _, .cons h r => .cons (Da.dp h) (DaAll.dp r)
end
mutual
theorem Da.less (sub : ∀ b ∈ S', b ∈ S) : ∀ {v : V} {d : PyData}, Da K S H v d → Da K S' H v d
  | _, _, .non => .non
  | _, _, .bl b => .bl b
  | _, _, .int i => .int i
  | _, _, .str x => .str x
  | _, _, .lst n h r => .lst (fun z => n (sub _ z)) h (DaAll.less sub r)
  | _, _, .tup h r => .tup h (DaAll.less sub r)
theorem DaAll.less (sub : ∀ b ∈ S', b ∈ S) : ∀ {vs : List V} {ds : List PyData}, DaAll K S H vs ds → DaAll K S' H vs ds
  | _, _, .nil => .nil
  | _, _, .cons h r => .cons (Da.less sub h) (DaAll.less sub r)
end
mutual
theorem Tp.da : ∀ {v : V} {d : PyData}, Tp K H v d → Da K S H v d
  | _, _, .non => .non
  | _, _, .bl b => .bl b
  | _, _, .int i => .int i
  | _, _, .str x => .str x
  | _, _, .tup h r => .tup h (TpAll.da r)
theorem TpAll.da : ∀ {vs : List V} {ds : List PyData}, TpAll K H vs ds → DaAll K S H vs ds
  | _, _, .nil => .nil
  | _, _, .cons h r => .cons (Tp.da h) (TpAll.da r)
end
theorem DaAll.len {vs : List V} {ds : List PyData} (h : DaAll K S H vs ds) : vs.length = ds.length := by
  induction vs generalizing ds with
  | nil => cases h; rfl
  | cons v vs ih => cases h with | cons a b => rw [List.length_cons, List.length_cons, ih b]
theorem DaAll.get {vs : List V} {ds : List PyData} (h : DaAll K S H vs ds) : ∀ {i : Nat} {v : V}, vs[i]? = some v → ∃ d, ds[i]? = some d ∧ Da K S H v d := by
  induction vs generalizing ds with
  | nil => intro i v e; simp at e
  | cons v0 vs ih =>
    cases h with
    | cons a b =>
      intro i v e
      cases i with
      | zero => cases e; exact ⟨_, rfl, a⟩
      | succ i => exact ih b (i := i) (by simpa using e)
theorem DaAll.app {vs us : List V} {ds es : List PyData} (h : DaAll K S H vs ds) (g : DaAll K S H us es) : DaAll K S H (vs ++ us) (ds ++ es) := by
  induction vs generalizing ds with
  | nil => cases h; exact g
  | cons v vs ih => cases h with | cons a b => exact .cons a (ih b)
theorem DaAll.take {vs : List V} {ds : List PyData} (h : DaAll K S H vs ds) : ∀ n, DaAll K S H (vs.take n) (ds.take n) := by
  induction vs generalizing ds with
  | nil => cases h; intro n; rw [List.take_nil, List.take_nil]; exact .nil
  | cons v vs ih =>
    cases h with
    | cons a b =>
      intro n
      cases n with
      | zero => exact .nil
      | succ n => exact .cons a (ih b n)
theorem DaAll.drop {vs : List V} {ds : List PyData} (h : DaAll K S H vs ds) : ∀ n, DaAll K S H (vs.drop n) (ds.drop n) := by
  induction vs generalizing ds with
  | nil => cases h; intro n; rw [List.drop_nil, List.drop_nil]; exact .nil
  | cons v vs ih =>
    cases h with
    | cons a b =>
      intro n
      cases n with
      | zero => exact .cons a b
      | succ n => exact ih b n
/-- a cut of a tuple -/
theorem da_cut {a : Addr} {xs : List V} {ds : List PyData} {lo hi : Option Int} {Q : VK} (hs : SqT K H a xs) (h : DaAll K S H xs ds)
    (q : ∀ p H' ys es, Ex [] H H' → SqT K H' p ys → DaAll K S H' ys es → es.length ≤ ds.length → (∀ d ∈ es, d ∈ ds) → Q (.ref p) H') : rSlA K (.ref a) lo hi H Q := by
  refine ⟨a, xs, rfl, hs, fun _ => q a H xs ds .refl hs h (Nat.le_refl _) fun _ z => z, fun _ p np => ?_⟩
  have x : Ex [] H (upd H p (.tup (cutV xs lo hi))) := .new np
  have hc : ∃ i j, cutV xs lo hi = (xs.drop i).take j := ⟨_, _, rfl⟩
  obtain ⟨i, j, e⟩ := hc
  refine q p _ (cutV xs lo hi) ((ds.drop i).take j) x (.of upd_same) ?_ ?_ ?_
  · rw [e] at x ⊢; exact ((h.drop i).take j).ex x fun _ z => by cases z
  · rw [List.length_take, List.length_drop]; omega
  · intro d m; exact List.mem_of_mem_drop (List.mem_of_mem_take m)
/-- two tuples, one behind the other -/
theorem da_cat {a b : Addr} {xs ys : List V} {ds es : List PyData} {Q : VK} (ha : SqT K H a xs) (hb : SqT K H b ys) (da : DaAll K S H xs ds) (db : DaAll K S H ys es) (hl : ds.length + es.length ≤ 1000)
    (q : ∀ p H' zs, Ex [] H H' → SqT K H' p zs → DaAll K S H' zs (ds ++ es) → Q (.ref p) H') : rCatA K (.ref a) (.ref b) H Q := by
  have l1 := da.len
  have l2 := db.len
  refine ⟨a, b, xs, ys, rfl, rfl, ha, hb, by rw [l1, l2]; exact Nat.le_trans hl (by decide), fun z => ?_, fun _ z => ?_, fun _ _ p np => ?_⟩
  · subst z; cases da; exact q b H ys .refl hb db
  · subst z; cases db; rw [List.append_nil] at q; exact q a H xs .refl ha da
  · exact q p _ _ (.new np) (.of upd_same) ((da.app db).ex (.new (xs := []) np) fun _ z => by cases z)
theorem tp_cat {a b : Addr} {xs ys : List V} {ds es : List PyData} {Q : VK} (ha : SqT K H a xs) (hb : SqT K H b ys) (da : TpAll K H xs ds) (db : TpAll K H ys es) (hl : ds.length + es.length ≤ 1000)
    (q : ∀ p H' zs, Ex [] H H' → SqT K H' p zs → TpAll K H' zs (ds ++ es) → Q (.ref p) H') : rCatA K (.ref a) (.ref b) H Q := by
  have l1 := da.len
  have l2 := db.len
  refine ⟨a, b, xs, ys, rfl, rfl, ha, hb, by rw [l1, l2]; exact Nat.le_trans hl (by decide), fun z => ?_, fun _ z => ?_, fun _ _ p np => ?_⟩
  · subst z; cases da; exact q b H ys .refl hb db
  · subst z; cases db; rw [List.append_nil] at q; exact q a H xs .refl ha da
  · exact q p _ _ (.new np) (.of upd_same) ((da.app db).ex (.new (xs := []) np))
end
section
variable {X : Cx} {K : PySem.W.Frag}
theorem yesA (n : Nat) : (List.range n).all (fun _ => true) = true := by simp
/-- a tuple held against () -/
theorem op_eqNilT (h : X.K = K) (hu : X.A.units + 64 < cLine) : OpR X (compareOp .Eq) (fun x y H Q => ∃ a b xs, x = .ref a ∧ y = .ref b ∧ SqT K H a xs ∧ SqT K H b [] ∧ Q (.bl xs.isEmpty) H) := by
  subst h
  intro pins s σ H x y v u Q I rx ry h
  obtain ⟨a, b, xs, rfl, rfl, ha, hb, q⟩ := h
  cases (show v = Value.ref a from rx)
  cases (show u = Value.ref b from ry)
  obtain ⟨its, r, pt, hz⟩ := I.tuple ha
  obtain ⟨its2, r2, pt2, hz2⟩ := I.tuple hb
  cases r2
  refine SeqAt.eq_tupleAt (e := fun _ => true) pt pt2 (by omega) (fun j h1 h2 => absurd h2 (Nat.not_lt_zero j)) ⟨.bl xs.isEmpty, H, I, ?_, q⟩
  rw [yesA]
  cases r with
  | nil => rfl
  | cons _ _ => simp; rfl
end
end Kk

namespace K43
open PySem PySem.Spec PyProof.Rows L2 Kk RZ
abbrev s_lpart : Stmt := topS 21
abbrev s_lorder : Stmt := topS 22
abbrev s_odd : Stmt := topS 23
abbrev n_lpart : List Str := ["_law_state", "_law_sign", "_law_hands", "_law_letters", "_law_word", "_law_k"]
abbrev n_lorder : List Str := ["_law_state", "_law_hands", "_law_word", "_law_sign"]
theorem sc_lpart : FnScope n_lpart ["_law_state", "_law_sign", "_law_hands"] (defScope s_lpart) := ⟨rfl, rfl, rfl, by decide +kernel, rfl, by decide +kernel, by decide +kernel⟩
theorem sc_lorder : FnScope n_lorder ["_law_state", "_law_hands"] (defScope s_lorder) := ⟨rfl, rfl, rfl, by decide +kernel, rfl, by decide +kernel, by decide +kernel⟩
theorem sc_odd : FnScope ["_law_state", "_law_hands", "_law_some"] ["_law_state", "_law_hands"] (defScope s_odd) := ⟨rfl, rfl, rfl, by decide +kernel, rfl, by decide +kernel, by decide +kernel⟩
inductive Atm : V → PyData → Prop
  | int (n : Int) : Atm (.int n) (.int n)
  | str {z : Str} : z.length ≤ 8 → Atm (.str z) (.str z)
theorem Atm.tp {K : PySem.W.Frag} {H : Hp} {v : V} {d : PyData} (h : Atm v d) : Tp K H v d := by
  cases h with
  | int n => exact .int n
  | str _ => exact .str _
theorem Atm.dk {v : V} {d : PyData} (h : Atm v d) : Dk d := by
  cases h with
  | int n => exact .int n
  | str l => exact .str (by omega)
def sg (c : Nat) : Str := ⟨#[c]⟩
theorem abc_at (v : Int) (h0 : 0 ≤ v) (h1 : v < 26) : ∃ c, atI abc.cps.toList v = some c ∧ c ∈ abc.cps.toList := by
  have hl : abc.cps.toList.length = 26 := by decide +kernel
  have h2 : v.toNat < abc.cps.toList.length := by omega
  refine ⟨abc.cps.toList[v.toNat], ?_, List.getElem_mem _⟩
  have := atI_nat (List.getElem?_eq_getElem h2)
  rwa [Int.toNat_of_nonneg h0] at this
theorem sg_sum : ∀ cl : List Nat, ((cl.map sg).map (·.length)).sum = cl.length
  | [] => rfl
  | c :: cl => by
    rw [List.map_cons, List.map_cons, List.sum_cons, sg_sum cl, List.length_cons]
    show 1 + cl.length = cl.length + 1
    omega
theorem join_sg (cl : List Nat) : TL.tl (Txt.join (Str.ofString "") (cl.map sg)) = cl := by
  rw [TL.join_eq, TL.tl_join]
  have e : TL.tl (Str.ofString "") = [] := by decide +kernel
  rw [e]
  induction cl with
  | nil => rfl
  | cons c r ih =>
    cases r with
    | nil => rfl
    | cons c2 r2 =>
      simp only [List.map_cons, TL.joinL, List.nil_append] at ih ⊢
      rw [ih]; rfl
section
variable {P : Program} {w : World} {K : PySem.W.Frag} {mg : Str → Option Value} {base : Heap}
def spLPart : Sp := fun vs H Q _ => ∃ (d : Addr) (z : Str) (h : Int), vs = [.ref d, .str z, .int h] ∧ St2 H d ∧ 0 < h ∧ h < 1000 ∧ ∀ H' v dd, Atm v dd → Ex [d] H H' → St2 H' d → Q v H'
theorem ok_lpart {f f1 : Addr} {fd d1 : FuncData} {k : Nat} (F : Fun K "_law_part" "_law_part" s_lpart f fd) (C__law_draw : Cl P w K mg base k "_law_draw" ["_law_state", "_law_many"] spDraw f1 d1) (m_range : mg "range" = none) : FnOk P w K mg base CX0 (k + 1) f fd ["_law_state", "_law_sign", "_law_hands"] spLPart := by
  refine F.ok sc_lpart (fun vs H Q E h => ?_) (fun cdv A outer s H vs Q E hr h => ?_)
  · obtain ⟨d, z, h, rfl, _⟩ := h; rfl
  · obtain ⟨d, z, h, rfl, hd, hp, hp2, q⟩ := h
    refine ⟨_, (pss_cons (ps_if (pt_cmpR op_eq (pv 1) pe_str (nomark _)) (pss_one (ps_ret (pe_ix ix_list (pe_lst (pa_cons pe_int (pa_cons (pe_op op_sub (pv 2) pe_int) (pa_cons (pe_call C__law_draw.g hr (by rfl) C__law_draw.m C__law_draw.k C__law_draw.b .nil pass0 (pa_cons (pv 0) (pa_cons (pv 2) pa_nil))) pa_nil)))) (pe_call C__law_draw.g hr (by rfl) C__law_draw.m C__law_draw.k C__law_draw.b .nil pass0 (pa_cons (pv 0) (pa_cons pe_int pa_nil))) (fun _ _ => rfl)))) pss_nil)
      (pss_cons (ps_if (pt_cmpR op_eq (pv 1) pe_str (nomark _)) (pss_one (ps_ret (pe_ix ix_list (pe_lst (pa_cons pe_int (pa_cons pe_int (pa_cons (pe_call C__law_draw.g hr (by rfl) C__law_draw.m C__law_draw.k C__law_draw.b .nil pass0 (pa_cons (pv 0) (pa_cons pe_int pa_nil))) pa_nil)))) (pe_call C__law_draw.g hr (by rfl) C__law_draw.m C__law_draw.k C__law_draw.b .nil pass0 (pa_cons (pv 0) (pa_cons pe_int pa_nil))) (fun _ _ => rfl)))) pss_nil)
      (pss_cons (ps_if (pt_cmpR op_eq (pv 1) pe_str (nomark _)) (pss_one (ps_ret (pe_ix ix_list (pe_lst (pa_cons pe_int (pa_cons pe_int (pa_cons (pe_call C__law_draw.g hr (by rfl) C__law_draw.m C__law_draw.k C__law_draw.b .nil pass0 (pa_cons (pv 0) (pa_cons pe_int pa_nil))) pa_nil)))) (pe_call C__law_draw.g hr (by rfl) C__law_draw.m C__law_draw.k C__law_draw.b .nil pass0 (pa_cons (pv 0) (pa_cons pe_int pa_nil))) (fun _ _ => rfl)))) pss_nil)
      (pss_cons (ps_set (i := 3) sc_lpart.nd rfl (.inr rfl) pe_str)
      (pss_cons (ps_set (i := 4) sc_lpart.nd rfl (.inl rfl) (pe_join pe_str (pe_lc (own := [("_law_k", 5)]) (g := gName 5) (tt := tYes) rfl sc_lpart.nd (pi_range1 (by rfl) m_range (pa_cons (pe_op op_add pe_int (pe_call C__law_draw.g hr (by rfl) C__law_draw.m C__law_draw.k C__law_draw.b .nil pass0 (pa_cons (pv 0) (pa_cons pe_int pa_nil)))) pa_nil)) (blkOk_by (N := n_lpart) (sc := defScope s_lpart) (by decide +kernel)) (fun _ _ _ _ _ => pg_name (i := 5) sc_lpart.nd rfl (Or.inl rfl)) (fun _ _ _ _ _ => pts_nil) (fun _ _ _ _ _ => (pe_ix ix_str (pv 3) (pe_call C__law_draw.g hr (by rfl) C__law_draw.m C__law_draw.k C__law_draw.b .nil pass0 (pa_cons (pv 0) (pa_cons pe_int pa_nil))) (fun _ _ => rfl))))))
      (pss_one (ps_ret (pe_ix ix_list (pe_lst (pa_cons (pv 4) (pa_cons (pv 4) (pa_cons pe_str (pa_cons pe_str (pa_cons pe_str pa_nil)))))) (pe_call C__law_draw.g hr (by rfl) C__law_draw.m C__law_draw.k C__law_draw.b .nil pass0 (pa_cons (pv 0) (pa_cons pe_int pa_nil))) (fun _ _ => rfl))))))))), ?_⟩
    refine ⟨.str z, rfl, rfl, _, rfl, ite2 (fun k1 => ?_) fun k1 => ?_⟩
    · refine ⟨.int h, rfl, h, 1, rfl, rfl, .ref d, rfl, .int h, rfl, d, h, rfl, hd, hp, by omega, fun H1 v1 a1 b1 x1 s1 => ?_⟩
      refine ⟨(by show 3 ≤ sizeLine; decide), fun l nl => ?_⟩
      have ne := s1.ne nl
      refine ⟨.ref d, rfl, d, 3, rfl, s1.ex (.new nl (xs := [])) (by simp), by decide, by decide, fun H2 v2 a2 b2 x2 s2 => ?_⟩
      obtain ⟨y, e1, e2⟩ := atZ (xs := [V.int 0, V.int (h - 1), V.int v1]) a2 b2
      refine ⟨l, _, v2, y, rfl, rfl, .of (x2.lst upd_same (by simpa using ne)), e1, ?_⟩
      have my := List.mem_of_getElem? e2
      have : ∃ n, y = .int n := by
        simp at my
        rcases my with rfl | rfl | rfl <;> exact ⟨_, rfl⟩
      obtain ⟨n, rfl⟩ := this
      exact q H2 _ _ (.int n) ((x1.trans (.new nl)).trans x2) s2
    refine ⟨.str z, rfl, rfl, _, rfl, ite2 (fun k2 => ?_) fun k2 => ?_⟩
    · refine ⟨.ref d, rfl, d, 60, rfl, hd, by decide, by decide, fun H1 v1 a1 b1 x1 s1 => ?_⟩
      refine ⟨(by show 3 ≤ sizeLine; decide), fun l nl => ?_⟩
      have ne := s1.ne nl
      refine ⟨.ref d, rfl, d, 3, rfl, s1.ex (.new nl (xs := [])) (by simp), by decide, by decide, fun H2 v2 a2 b2 x2 s2 => ?_⟩
      obtain ⟨y, e1, e2⟩ := atZ (xs := [V.int 0, V.int 59, V.int v1]) a2 b2
      refine ⟨l, _, v2, y, rfl, rfl, .of (x2.lst upd_same (by simpa using ne)), e1, ?_⟩
      have my := List.mem_of_getElem? e2
      have : ∃ n, y = .int n := by
        simp at my
        rcases my with rfl | rfl | rfl <;> exact ⟨_, rfl⟩
      obtain ⟨n, rfl⟩ := this
      exact q H2 _ _ (.int n) ((x1.trans (.new nl)).trans x2) s2
    refine ⟨.str z, rfl, rfl, _, rfl, ite2 (fun k3 => ?_) fun k3 => ?_⟩
    · refine ⟨.ref d, rfl, d, 10000, rfl, hd, by decide, by decide, fun H1 v1 a1 b1 x1 s1 => ?_⟩
      refine ⟨(by show 3 ≤ sizeLine; decide), fun l nl => ?_⟩
      have ne := s1.ne nl
      refine ⟨.ref d, rfl, d, 3, rfl, s1.ex (.new nl (xs := [])) (by simp), by decide, by decide, fun H2 v2 a2 b2 x2 s2 => ?_⟩
      obtain ⟨y, e1, e2⟩ := atZ (xs := [V.int 0, V.int 9999, V.int v1]) a2 b2
      refine ⟨l, _, v2, y, rfl, rfl, .of (x2.lst upd_same (by simpa using ne)), e1, ?_⟩
      have my := List.mem_of_getElem? e2
      have : ∃ n, y = .int n := by
        simp at my
        rcases my with rfl | rfl | rfl <;> exact ⟨_, rfl⟩
      obtain ⟨n, rfl⟩ := this
      exact q H2 _ _ (.int n) ((x1.trans (.new nl)).trans x2) s2
    refine ⟨⟨_, rfl⟩, ?_⟩
    refine ⟨.ref d, rfl, d, 8, rfl, hd, by decide, by decide, fun H1 v hv0 hv1 x1 D1 => ?_⟩
    refine ⟨1, v, rfl, rfl, 1 + v, rfl, by omega, by omega, fun B nB => ?_⟩
    have nB0 : H B = none := x1.f B nB
    have dB : B ≠ d := D1.ne nB
    refine lc_range (lo := 0) (n := (1 + v).toNat) (fun i H2 => ∃ cl : List Nat, H2 B = some (.lst ((cl.map sg).map V.str)) ∧ cl.length = i ∧ (∀ c ∈ cl, c ∈ abc.cps.toList) ∧ Ex [d] H H2 ∧ St2 H2 d) ?_ ?_ ?_
    · exact ⟨[], upd_same, rfl, by simp, x1.trans (.new nB), D1.ex (.new nB (xs := [])) (by simp)⟩
    · intro i H2 hi ⟨cl, hB, hbl, hbs, x2, D2⟩
      refine ⟨rfl, ?_⟩
      refine ⟨.str abc, rfl, .ref d, rfl, d, 26, rfl, D2, by decide, by decide, fun H3 u hu0 hu1 x3 D3 => ?_⟩
      obtain ⟨c, hc1, hc2⟩ := abc_at u hu0 hu1
      have hB3 := x3.lst hB (by simpa using dB)
      refine ⟨abc, u, c, rfl, rfl, by decide, hc1, (cl.map sg).map V.str, hB3, by rw [List.length_map, List.length_map]; exact Nat.lt_of_le_of_lt (show cl.length ≤ 10 by omega) (by decide), ?_⟩
      refine ⟨cl ++ [c], by rw [upd_same, List.map_append, List.map_append]; rfl, by rw [List.length_append, hbl]; rfl, fun b hb => ?_, Ex.own nB0 (x2.trans x3) (.put hB3 nt_lst (by simp)), D3.ex (.put (xs := [B]) hB3 nt_lst (by simp)) (by simpa using dB.symm)⟩
      rcases List.mem_append.mp hb with z | z
      · exact hbs b z
      · rw [List.mem_singleton.mp z]; exact hc2
    · intro H2 ⟨bs, hB, hbl, hbs, x2, D2⟩
      have jl : (Txt.join (Str.ofString "") (bs.map sg)).length ≤ 8 := by rw [TL.len_tl, join_sg]; omega
      refine ⟨_, B, bs.map sg, rfl, rfl, .inl (.of hB), by rw [sg_sum, show (Str.ofString "").length = 0 by decide +kernel]; omega, ?_⟩
      generalize Txt.join (Str.ofString "") (bs.map sg) = tx at jl
      refine ⟨.str tx, rfl, .str tx, rfl, (by show 5 ≤ sizeLine; decide), fun l nl => ?_⟩
      have ne := D2.ne nl
      refine ⟨.ref d, rfl, d, 5, rfl, D2.ex (.new nl (xs := [])) (by simp), by decide, by decide, fun H3 v3 a3 b3 x3 s3 => ?_⟩
      obtain ⟨y, e1, e2⟩ := atZ (xs := [V.str tx, V.str tx, V.str (Str.ofString "keys"), V.str (Str.ofString "abcdefgh"), V.str (Str.ofString "lay")]) a3 b3
      refine ⟨l, _, v3, y, rfl, rfl, .of (x3.lst upd_same (by simpa using ne)), e1, ?_⟩
      have my := List.mem_of_getElem? e2
      have : ∃ n : Str, y = .str n ∧ n.length ≤ 8 := by
        simp only [List.mem_cons, List.not_mem_nil, or_false] at my
        rcases my with rfl | rfl | rfl | rfl | rfl
        · exact ⟨_, rfl, jl⟩
        · exact ⟨_, rfl, jl⟩
        · exact ⟨_, rfl, by decide +kernel⟩
        · exact ⟨_, rfl, by decide +kernel⟩
        · exact ⟨_, rfl, by decide +kernel⟩
      obtain ⟨n, rfl, hn⟩ := this
      exact q H3 _ _ (.str hn) ((x2.trans (.new nl)).trans x3) s3
def shK : List Str := shT.map (·.1)
theorem sh_keys : shKV.map (·.1) = shK.map Sum.inr := by decide +kernel
theorem sh_val {z : Str} (h : z ∈ shK) : ∃ y, valV shKV (.inr z) = some (.str y) ∧ 1 ≤ y.cps.size ∧ y.cps.size ≤ 3 := by
  have hh : ∀ z ∈ shK, (match valV shKV (.inr z) with | some (.str y) => decide (1 ≤ y.cps.size) && decide (y.cps.size ≤ 3) | _ => false) = true := by decide +kernel
  have := hh z h
  split at this
  · rename_i y e
    rw [Bool.and_eq_true] at this
    exact ⟨y, e, of_decide_eq_true this.1, of_decide_eq_true this.2⟩
  · cases this
theorem sh_len {z : Str} (h : z ∈ shK) : z.length ≤ 1000 := by
  have hh : ∀ z ∈ shK, z.length ≤ 1000 := by decide +kernel
  exact hh z h
def OrdD (d : PyData) : Prop := ∃ os, d = .tuple os ∧ 1 ≤ os.length ∧ os.length ≤ 5 ∧ ∀ x ∈ os, Dk x
theorem OrdD.dk {d : PyData} (h : OrdD d) : Dk d := by
  obtain ⟨os, rfl, h1, h2, h3⟩ := h
  exact .tup (by omega) h3
def spLOrder (K : PySem.W.Frag) : Sp := fun vs H Q _ => ∃ (d : Addr) (h : Int), vs = [.ref d, .int h] ∧ St2 H d ∧ 0 < h ∧ h < 1000 ∧ ∀ H' v dd, Tp K H' v dd → OrdD dd → Ex [d] H H' → St2 H' d → Q v H'
theorem ok_lorder {f f1 f2 f3 : Addr} {fd d1 d2 d3 : FuncData} {k : Nat} (F : Fun K "_law_order" "_law_order" s_lorder f fd) (C__law_one : Cl P w K mg base k "_law_one" ["_law_state", "_law_row"] (spOne K) f1 d1)
    (C__law_shapes : Cl P w K mg base k "_law_shapes" [] spShapes f2 d2) (C__law_part : Cl P w K mg base k "_law_part" ["_law_state", "_law_sign", "_law_hands"] spLPart f3 d3) (m_sorted : mg "sorted" = none) (m_tuple : mg "tuple" = none) : FnOk P w K mg base CX0 (k + 1) f fd ["_law_state", "_law_hands"] (spLOrder K) := by
  refine F.ok sc_lorder (fun vs H Q E h => ?_) (fun cdv A outer s H vs Q E hr h => ?_)
  · obtain ⟨d, h, rfl, _⟩ := h; rfl
  · obtain ⟨d, h, rfl, hd, hp, hp2, q⟩ := h
    refine ⟨_, (pss_cons (ps_set (i := 2) sc_lorder.nd rfl (.inl rfl) (pe_call C__law_one.g hr (by rfl) C__law_one.m C__law_one.k C__law_one.b .nil pass0 (pa_cons (pv 0) (pa_cons (pe_callB (call_sortedD rfl) (by rfl) m_sorted (by decide +kernel) (pa_cons (pe_call0 C__law_shapes.g hr (by rfl) C__law_shapes.m C__law_shapes.k C__law_shapes.b .nil pass0) pa_nil)) pa_nil))))
      (pss_one (ps_ret (pe_op op_catA (pe_tup (pa_cons (pv 2) pa_nil)) (pe_callTy call_tuple_of (by rfl) m_tuple (by decide +kernel) (pa_cons (pe_lc (own := [("_law_sign", 3)]) (g := gName 3) (tt := tYes) rfl sc_lorder.nd (pi_str (pe_dget (hu_of hr) (pe_call0 C__law_shapes.g hr (by rfl) C__law_shapes.m C__law_shapes.k C__law_shapes.b .nil pass0) (pv 2) (fun _ _ => rfl))) (blkOk_by (N := n_lorder) (sc := defScope s_lorder) (by decide +kernel)) (fun _ _ _ _ _ => pg_name (i := 3) sc_lorder.nd rfl (Or.inl rfl)) (fun _ _ _ _ _ => pts_nil) (fun _ _ _ _ _ => (pe_call C__law_part.g hr (by rfl) C__law_part.m C__law_part.k C__law_part.b .nil pass0 (pa_cons (pv 0) (pa_cons (pv 3) (pa_cons (pv 1) pa_nil)))))) pa_nil)))))), ?_⟩
    refine ⟨.ref d, rfl, rfl, fun p1 n1 => ⟨p1, shKV, shK, rfl, .inl upd_same, sh_keys, by decide +kernel, fun ys p2 pm _ n2 => ?_⟩⟩
    have x1 : Ex [] H (upd H p1 (.dK shKV)) := .new n1
    have x2 : Ex [] (upd H p1 (.dK shKV)) (upd (upd H p1 (.dK shKV)) p2 (.lst (ys.map V.str))) := .new n2
    have s2 := (hd.ex x1 (by simp)).ex x2 (by simp)
    have yl : ys.length = 11 := by rw [pm.length_eq]; decide +kernel
    refine ⟨d, p2, ys.map V.str, rfl, s2, (hd.ex x1 (by simp)).ne n2, .of upd_same, by rw [List.length_map]; omega, by rw [List.length_map]; omega, fun H3 i x hx x3 s3 => ?_⟩
    have x03 : Ex [d] H H3 := ((x1.trans x2).mono (by simp)).trans x3
    rw [List.getElem?_map] at hx
    cases hz : ys[i]? with
    | none => rw [hz] at hx; cases hx
    | some z =>
      rw [hz] at hx
      cases hx
      have mz : z ∈ shK := pm.mem_iff.mp (List.mem_of_getElem? hz)
      obtain ⟨y, ev, ly1, ly2⟩ := sh_val mz
      refine ⟨.str z, rfl, (by show 1 ≤ sizeLine; decide), fun t nt => ?_⟩
      have x4 : Ex [] H3 (upd H3 t (.tup [.str z])) := .new nt
      refine ⟨rfl, fun p5 n5 => ?_⟩
      have x5 : Ex [] (upd H3 t (.tup [.str z])) (upd (upd H3 t (.tup [.str z])) p5 (.dK shKV)) := .new n5
      refine ⟨.str z, rfl, p5, .str y, rfl, by rw [← ev]; exact DGet.k (k := Sum.inr z) upd_same, y, rfl, fun D nD => ?_⟩
      have x05 : Ex [d] H _ := x03.trans ((x4.trans x5).mono (by simp))
      have s5 := (s3.ex x4 (by simp)).ex x5 (by simp)
      have dD := s5.ne nD
      refine lc_it walk_str (fun i H2 => ∃ acc ds, H2 D = some (.lst acc) ∧ TpAll K H2 acc ds ∧ (∀ x ∈ ds, Dk x) ∧ acc.length = i ∧ H2 t = some (.tup [.str z]) ∧ Ex [d] H H2 ∧ St2 H2 d) ?_ (fun _ _ _ _ => trivial) ?_ ?_
      · exact ⟨[], [], upd_same, .nil, by simp, rfl, (x5.trans (.new nD)).tup upd_same, x05.trans (.new nD), s5.ex (.new nD (xs := [])) (by simp)⟩
      · intro i x H6 H7 hi ⟨acc, ds, hD, ht, hk, hl, htt, x6, s6⟩ ⟨e, c, hc, ex⟩
        subst e ex
        refine ⟨rfl, ?_⟩
        refine ⟨.ref d, rfl, .str ⟨#[c]⟩, rfl, .int h, rfl, d, ⟨#[c]⟩, h, rfl, s6, hp, hp2, fun H8 v8 d8 at8 x8 s8 => ?_⟩
        have hD8 := x8.lst hD (by simpa using dD)
        have x9 : Ex [D] H8 (upd H8 D (.lst (acc ++ [v8]))) := .put hD8 nt_lst (by simp)
        refine ⟨acc, hD8, Nat.lt_of_le_of_lt (show acc.length ≤ 10 by omega) (by decide), acc ++ [v8], ds ++ [d8], upd_same, ((ht.ex x8).app (.cons at8.tp .nil)).ex x9, fun x hx => ?_, by rw [List.length_append, hl]; rfl, x9.tup (x8.tup htt), Ex.own (x05.f D nD) (x6.trans x8) (x9.mono (by simp)), s8.ex x9 (by simpa using dD.symm)⟩
        rcases List.mem_append.mp hx with m | m
        · exact hk x m
        · rw [List.mem_singleton.mp m]; exact at8.dk
      · intro H6 ⟨acc, ds, hD, ht, hk, hl, htt, x6, s6⟩
        have hl2 := ht.len
        refine ⟨D, acc, rfl, .inl ⟨.of hD, fun T nT => ?_⟩⟩
        have x7 : Ex [] H6 (upd H6 T (.tup acc)) := .new nT
        refine tp_cat (K := K) (ds := [.str z]) (es := ds) (.of (x7.tup htt)) (.of upd_same) (.cons (.str z) .nil) (ht.ex x7) (by rw [← hl2, hl, List.length_singleton]; omega) fun p8 H8 zs x8 hs8 da8 => ?_
        refine q H8 _ _ (.tup hs8 da8) ⟨_, rfl, by simp, by rw [List.length_append, ← hl2, hl, List.length_singleton]; omega, fun x hx => ?_⟩ (x6.trans ((x7.trans x8).mono (by simp))) (s6.ex (x7.trans x8) (by simp))
        rcases List.mem_append.mp hx with m | m
        · rw [List.mem_singleton.mp m]; exact .str (sh_len mz)
        · exact hk x m
theorem neg1 {X : Cx} {j} {p q : Pos} {i : Int} : PE X (.UnaryOp .USub (.Constant (.int i) j p) q) (fun σ H Q => Q (.int (-i)) H) :=
  ⟨fun pins s σ H Q I h => (pe_un un_neg pe_int).run pins s σ H Q I ⟨i, rfl, h⟩⟩
def spOdd (K : PySem.W.Frag) : Sp := fun vs H Q _ => ∃ (d : Addr) (h : Int) (S : List Addr), vs = [.ref d, .int h] ∧ St2 H d ∧ (∀ b ∈ S, H b ≠ none) ∧ ∀ H' v dd, Da K S H' v dd → Dk dd → Ex [d] H H' → St2 H' d → Q v H'
theorem ok_odd {f f1 : Addr} {fd d1 : FuncData} {k : Nat} (F : Fun K "_law_odd" "_law_odd" s_odd f fd) (C__law_draw : Cl P w K mg base k "_law_draw" ["_law_state", "_law_many"] spDraw f1 d1) (m_len : mg "len" = none) : FnOk P w K mg base CX0 (k + 1) f fd ["_law_state", "_law_hands"] (spOdd K) := by
  refine F.ok sc_odd (fun vs H Q E h => ?_) (fun cdv A outer s H vs Q E hr h => ?_)
  · obtain ⟨d, h, S, rfl, _⟩ := h; rfl
  · obtain ⟨d, h, S, rfl, hd, hS, q⟩ := h
    refine ⟨_, (pss_cons (ps_set (i := 2) sc_odd.nd rfl (.inl rfl) (pe_lst (pa_cons (pv 1) (pa_cons neg1 (pa_cons pe_int (pa_cons pe_int (pa_cons pe_bl (pa_cons pe_bl (pa_cons pe_non (pa_cons pe_str (pa_cons pe_str (pa_cons pe_str (pa_cons pe_str (pa_cons pe_str (pa_cons pe_int (pa_cons pe_int (pa_cons (pe_lst (pa_cons pe_int pa_nil)) (pa_cons (pe_tup (pa_cons pe_int pa_nil)) (pa_cons pe_str (pa_cons pe_int (pa_cons pe_int pa_nil)))))))))))))))))))))
      (pss_one (ps_ret (pe_ix ix_list (pv 2) (pe_call C__law_draw.g hr (by rfl) C__law_draw.m C__law_draw.k C__law_draw.b .nil pass0 (pa_cons (pv 0) (pa_cons (pe_callB call_len_seq (by rfl) m_len PySem.boot_len (pa_cons (pv 2) pa_nil)) pa_nil))) (fun _ _ => rfl))))), ?_⟩
    refine ⟨.int h, rfl, (by show 1 ≤ sizeLine; decide), fun l1 n1 => ?_⟩
    have x1 : Ex [] H (upd H l1 (.lst [.int 0])) := .new n1
    refine ⟨(by show 1 ≤ sizeLine; decide), fun t2 n2 => ?_⟩
    have x2 : Ex [] (upd H l1 (.lst [.int 0])) (upd (upd H l1 (.lst [.int 0])) t2 (.tup [.int 0])) := .new n2
    refine ⟨(by show 19 ≤ sizeLine; decide), fun l3 n3 => ?_⟩
    have s2 := (hd.ex x1 (by simp)).ex x2 (by simp)
    have ne := s2.ne n3
    refine ⟨.ref l3, rfl, .ref d, rfl, .ref l3, rfl, l3, _, rfl, .inl (.of upd_same), d, 19, rfl, s2.ex (.new n3 (xs := [])) (by simp), by decide, by decide, fun H4 v4 a4 b4 x4 s4 => ?_⟩
    generalize hxs : ([V.int h, V.int (-1), V.int 60, V.int 10000, V.bl true, V.bl false, V.non, V.str (Str.ofString ""), V.str (Str.ofString "w"), V.str (Str.ofString "take"), V.str (Str.ofString "ninesigns"), V.str (Str.ofString "A"), V.int 0, V.int 1, V.ref l1, V.ref t2, V.str (Str.ofString "a.b"), V.int 7, V.int 59] : List V) = xs at x4
    have hl19 : xs.length = 19 := by rw [← hxs]; rfl
    obtain ⟨y, e1, e2⟩ := atZ (xs := xs) a4 (by rw [hl19]; exact b4)
    have hl3 := x4.lst (upd_same (H := upd (upd H l1 (.lst [.int 0])) t2 (.tup [.int 0])) (a := l3) (o := .lst xs)) (by simpa using ne)
    refine ⟨l3, xs, v4, y, rfl, rfl, .of hl3, e1, ?_⟩
    have x04 : Ex [d] H H4 := (((x1.trans x2).trans (.new n3)).mono (by simp)).trans x4
    have d1 : l1 ≠ d := hd.ne n1
    have hl1 : H4 l1 = some (.lst [.int 0]) := x4.lst ((x2.trans (.new n3)).lst (upd_same (H := H) (a := l1) (o := .lst [.int 0]))) (by simpa using d1)
    have ht2 : H4 t2 = some (.tup [.int 0]) := ((Ex.new n3 (xs := [d])).trans x4).tup upd_same
    have my := List.mem_of_getElem? e2
    have i0 : Da K S H4 (.int 0) (.int 0) := .int 0
    have fin : ∃ dd, Da K S H4 y dd ∧ Dk dd := by
      rw [← hxs] at my
      simp only [List.mem_cons, List.not_mem_nil, or_false] at my
      rcases my with rfl | rfl | rfl | rfl | rfl | rfl | rfl | rfl | rfl | rfl | rfl | rfl | rfl | rfl | rfl | rfl | rfl | rfl | rfl
      · exact ⟨_, .int _, .int _⟩
      · exact ⟨_, .int _, .int _⟩
      · exact ⟨_, .int _, .int _⟩
      · exact ⟨_, .int _, .int _⟩
      · exact ⟨_, .bl _, .bl _⟩
      · exact ⟨_, .bl _, .bl _⟩
      · exact ⟨_, .non, .non⟩
      · exact ⟨_, .str _, .str (by decide +kernel)⟩
      · exact ⟨_, .str _, .str (by decide +kernel)⟩
      · exact ⟨_, .str _, .str (by decide +kernel)⟩
      · exact ⟨_, .str _, .str (by decide +kernel)⟩
      · exact ⟨_, .str _, .str (by decide +kernel)⟩
      · exact ⟨_, .int _, .int _⟩
      · exact ⟨_, .int _, .int _⟩
      · exact ⟨_, .lst (fun z => hS _ z n1) (.of hl1) (.cons i0 .nil), .lst⟩
      · exact ⟨_, .tup (.of ht2) (.cons i0 .nil), .tup (by simp) (fun x hx => by rw [List.mem_singleton.mp hx]; exact .int 0)⟩
      · exact ⟨_, .str _, .str (by decide +kernel)⟩
      · exact ⟨_, .int _, .int _⟩
      · exact ⟨_, .int _, .int _⟩
    obtain ⟨dd, h1, h2⟩ := fin
    exact q H4 y dd h1 h2 x04 s4
end
end K43

set_option maxHeartbeats 4000000
namespace Kk
open PySem PySem.Spec PyProof.Rows L2
theorem PS.by {X : Cx} {st : Stmt} {t t' : TS} (h : PS X st t) (imp : ∀ D σ H, t' D σ H → t D σ H) : PS X st t' := ⟨fun pins s σ H D I q => h.run pins s σ H D I (imp D σ H q)⟩
end Kk
namespace K43
open PySem PySem.Spec PyProof.Rows L2 Kk RZ
abbrev s_bent : Stmt := topS 24
theorem sc_bent : FnScope ["_law_state", "_law_code", "_law_hands", "_law_at", "_law_order_here", "_law_k", "_law_way"] ["_law_state", "_law_code", "_law_hands"] (defScope s_bent) := ⟨rfl, rfl, rfl, by decide +kernel, rfl, by decide +kernel, by decide +kernel⟩
theorem sub1 {S : List Addr} {d : Addr} (h : d ∈ S) : ∀ b ∈ [d], b ∈ S := fun b hb => by rw [List.mem_singleton.mp hb]; exact h
theorem sub0 {S : List Addr} : ∀ b ∈ ([] : List Addr), b ∈ S := fun _ hb => by cases hb
theorem hasS {S : List Addr} {xs : List Addr} {H H' : Hp} (h : ∀ b ∈ S, H b ≠ none) (e : Ex xs H H') : ∀ b ∈ S, H' b ≠ none := fun b hb z => h b hb (e.f b z)
/-- the order put otherwise: another thing in its place -/
def tBend (K : PySem.W.Frag) : TS := fun D σ H => ∃ (d o : Addr) (c at_ : V) (h k way : Int) (S : List Addr) (ys : List V) (os : List PyData), σ = [some (.ref d), some c, some (.int h), some at_, some (.ref o), some (.int k), some (.int way)] ∧
  St2 H d ∧ d ∈ S ∧ (∀ b ∈ S, H b ≠ none) ∧ SqT K H o ys ∧ TpAll K H ys os ∧ (∀ x ∈ os, Dk x) ∧ os.length ≤ 5 ∧
  ∀ H' v dd, Da K S H' v dd → Dk dd → Ex [d] H H' → St2 H' d → D.nx [some (.ref d), some c, some (.int h), some at_, some v, some (.int k), some (.int way)] H'
section
variable {P : Program} {w : World} {K : PySem.W.Frag} {mg : Str → Option Value} {base : Heap}
def spBent (K : PySem.W.Frag) : Sp := fun vs H Q _ => ∃ (d c : Addr) (h : Int) (S : List Addr) (xs : List V) (ds : List PyData), vs = [.ref d, .ref c, .int h] ∧ St2 H d ∧ d ∈ S ∧ (∀ b ∈ S, H b ≠ none) ∧ SqT K H c xs ∧ TpAll K H xs ds ∧ ds.length ≤ 9 ∧ (∀ x ∈ ds, OrdD x) ∧
  ∀ H' v dd, Da K S H' v dd → Dk dd → Ex [d] H H' → St2 H' d → Q v H'
theorem ok_bent {f f1 f2 f3 f4 : Addr} {fd d1 d2 d3 d4 : FuncData} {k : Nat} (F : Fun K "_law_bent" "_law_bent" s_bent f fd) (C__law_one : Cl P w K mg base k "_law_one" ["_law_state", "_law_row"] (spOne K) f1 d1)
    (C__law_shapes : Cl P w K mg base k "_law_shapes" [] spShapes f2 d2) (C__law_odd : Cl P w K mg base k "_law_odd" ["_law_state", "_law_hands"] (spOdd K) f3 d3) (C__law_draw : Cl P w K mg base k "_law_draw" ["_law_state", "_law_many"] spDraw f4 d4)
    (m_sorted : mg "sorted" = none) (m_list : mg "list" = none) (m_len : mg "len" = none) : FnOk P w K mg base CX0 (k + 1) f fd ["_law_state", "_law_code", "_law_hands"] (spBent K) := by
  refine F.ok sc_bent (fun vs H Q E h => ?_) (fun cdv A outer s H vs Q E hr h => ?_)
  · obtain ⟨d, c, h, S, xs, ds, rfl, _⟩ := h; rfl
  · obtain ⟨d, c, h, S, xs, ds, rfl, hd, dS, hS, hc, hx, hl, ho, q⟩ := h
    refine ⟨_, (pss_cons (ps_if (pt_cmpR (op_eqNilT (K := K) rfl hr.units) (pv 1) (pe_tup pa_nil) (nomark _)) (pss_one (ps_ret (pe_ix ix_list (pe_lst (pa_cons (pe_call C__law_odd.g hr (by rfl) C__law_odd.m C__law_odd.k C__law_odd.b .nil pass0 (pa_cons (pv 0) (pa_cons (pv 2) pa_nil))) (pa_cons (pe_lst pa_nil) (pa_cons (pe_tup (pa_cons (pe_call C__law_odd.g hr (by rfl) C__law_odd.m C__law_odd.k C__law_odd.b .nil pass0 (pa_cons (pv 0) (pa_cons (pv 2) pa_nil))) pa_nil)) pa_nil)))) (pe_call C__law_draw.g hr (by rfl) C__law_draw.m C__law_draw.k C__law_draw.b .nil pass0 (pa_cons (pv 0) (pa_cons pe_int pa_nil))) (fun _ _ => rfl)))) pss_nil)
      (pss_cons (ps_set (i := 3) sc_bent.nd rfl (.inl rfl) (pe_call C__law_draw.g hr (by rfl) C__law_draw.m C__law_draw.k C__law_draw.b .nil pass0 (pa_cons (pv 0) (pa_cons (pe_callB call_len_seq (by rfl) m_len PySem.boot_len (pa_cons (pv 1) pa_nil)) pa_nil))))
      (pss_cons (ps_set (i := 4) sc_bent.nd rfl (.inl rfl) (pe_ix ix_tup (pv 1) (pv 3) (fun _ _ => rfl)))
      (pss_cons (ps_set (i := 5) sc_bent.nd rfl (.inl rfl) (pe_call C__law_draw.g hr (by rfl) C__law_draw.m C__law_draw.k C__law_draw.b .nil pass0 (pa_cons (pv 0) (pa_cons (pe_callB call_len_seq (by rfl) m_len PySem.boot_len (pa_cons (pv 4) pa_nil)) pa_nil))))
      (pss_cons (ps_set (i := 6) sc_bent.nd rfl (.inl rfl) (pe_call C__law_draw.g hr (by rfl) C__law_draw.m C__law_draw.k C__law_draw.b .nil pass0 (pa_cons (pv 0) (pa_cons pe_int pa_nil))))
      (pss_cons (PS.by (t' := tBend K) (ps_if (pt_cmpR op_lt (pv 6) pe_int (nomark _)) (pss_one (ps_set (i := 4) sc_bent.nd rfl (.inl rfl) (pe_op op_catA (pe_op op_catA (pe_slice sl_tupA (pv 4) po_none (po_some (pv 5))) (pe_tup (pa_cons (pe_call C__law_odd.g hr (by rfl) C__law_odd.m C__law_odd.k C__law_odd.b .nil pass0 (pa_cons (pv 0) (pa_cons (pv 2) pa_nil))) pa_nil))) (pe_slice sl_tupA (pv 4) (po_some (pe_op op_add (pv 5) pe_int)) po_none)))) (pss_one (ps_if (pt_cmpR op_eq (pv 6) pe_int (nomark _)) (pss_one (ps_set (i := 4) sc_bent.nd rfl (.inl rfl) (pe_op op_catA (pe_slice sl_tupA (pv 4) po_none (po_some (pv 5))) (pe_slice sl_tupA (pv 4) (po_some (pe_op op_add (pv 5) pe_int)) po_none)))) (pss_one (ps_if (pt_cmpR op_eq (pv 6) pe_int (nomark _)) (pss_one (ps_set (i := 4) sc_bent.nd rfl (.inl rfl) (pe_op op_catA (pv 4) (pe_tup (pa_cons (pe_call C__law_odd.g hr (by rfl) C__law_odd.m C__law_odd.k C__law_odd.b .nil pass0 (pa_cons (pv 0) (pa_cons (pv 2) pa_nil))) pa_nil))))) (pss_one (ps_if (pt_cmpR op_eq (pv 6) pe_int (nomark _)) (pss_one (ps_set (i := 4) sc_bent.nd rfl (.inl rfl) (pe_op op_catA (pe_tup (pa_cons (pe_call C__law_one.g hr (by rfl) C__law_one.m C__law_one.k C__law_one.b .nil pass0 (pa_cons (pv 0) (pa_cons (pe_op op_cat (pe_callB (call_sortedD rfl) (by rfl) m_sorted (by decide +kernel) (pa_cons (pe_call0 C__law_shapes.g hr (by rfl) C__law_shapes.m C__law_shapes.k C__law_shapes.b .nil pass0) pa_nil)) (pe_lst (pa_cons pe_str (pa_cons pe_str (pa_cons pe_str pa_nil))))) pa_nil))) pa_nil)) (pe_slice sl_tupA (pv 4) (po_some pe_int) po_none)))) (pss_one (ps_set (i := 4) sc_bent.nd rfl (.inl rfl) (pe_ix ix_list (pe_lst (pa_cons (pe_callTy call_list_of (by rfl) m_list (by decide +kernel) (pa_cons (pv 4) pa_nil)) (pa_cons (pe_call C__law_odd.g hr (by rfl) C__law_odd.m C__law_odd.k C__law_odd.b .nil pass0 (pa_cons (pv 0) (pa_cons (pv 2) pa_nil))) (pa_cons (pe_tup (pa_cons (pv 4) pa_nil)) pa_nil)))) (pe_call C__law_draw.g hr (by rfl) C__law_draw.m C__law_draw.k C__law_draw.b .nil pass0 (pa_cons (pv 0) (pa_cons pe_int pa_nil))) (fun _ _ => rfl))))))))))) (by
          rintro D σ H ⟨d, o, c, at_, h, k, way, S, ys, os, rfl, hd, dS, hS, ho, hy, hk, hl, q⟩
          have fin : ∀ (p : Addr) (H' : Hp) (zs : List V) (es : List PyData), Ex [d] H H' → St2 H' d → SqT K H' p zs → DaAll K S H' zs es → es.length ≤ 20 → (∀ x ∈ es, Dk x) → D.nx [some (.ref d), some c, some (.int h), some at_, some (.ref p), some (.int k), some (.int way)] H' :=
            fun p H' zs es x s hz he hl hk => q H' (.ref p) (.tuple es) (.tup hz he) (.tup (by omega) hk) x s
          refine ⟨.int way, rfl, way, 3, rfl, rfl, _, rfl, ite2 (fun _ => ?_) fun _ => ?_⟩
          · refine ⟨.ref o, rfl, .int k, rfl, k, rfl, da_cut (K := K) (S := S) ho hy.da fun p1 H1 y1 e1 x1 hs1 da1 l1 m1 => ?_⟩
            refine ⟨.ref d, rfl, .int h, rfl, d, h, S, rfl, hd.ex x1 (by simp), hasS hS x1, fun H2 v2 d2 hv2 k2 x2 s2 => ?_⟩
            refine ⟨(by show 1 ≤ sizeLine; decide), fun t3 n3 => ?_⟩
            have x3 : Ex [] H2 (upd H2 t3 (.tup [v2])) := .new n3
            have x13 : Ex [d] H1 (upd H2 t3 (.tup [v2])) := x2.trans (x3.mono sub0)
            refine da_cat (K := K) (S := S) (ds := e1) (es := [d2]) (x13.seqT hs1) (.of upd_same) (da1.ex x13 (sub1 dS)) (.cons (hv2.ex x3 sub0) .nil) (by rw [List.length_singleton]; omega) fun p4 H4 z4 x4 hs4 da4 => ?_
            refine ⟨.ref o, rfl, .int k, rfl, k, 1, rfl, rfl, _, rfl, ?_⟩
            have x04 : Ex [d] H H4 := ((x1.mono sub0).trans x13).trans (x4.mono sub0)
            dsimp only [tNoPart]
            refine da_cut (K := K) (S := S) (x04.seqT ho) (hy.ex x04).da fun p5 H5 y5 e5 x5 hs5 da5 l5 m5 => ?_
            refine da_cat (K := K) (S := S) (x5.seqT hs4) hs5 (da4.ex x5 sub0) da5 (by rw [List.length_append, List.length_singleton]; omega) fun p6 H6 z6 x6 hs6 da6 => ?_
            refine fin p6 H6 z6 _ (x04.trans ((x5.trans x6).mono sub0)) ((((s2.ex x3 (by simp)).ex x4 (by simp)).ex x5 (by simp)).ex x6 (by simp)) hs6 da6 (by rw [List.length_append, List.length_append, List.length_singleton]; omega) fun x hx => ?_
            rcases List.mem_append.mp hx with hx | hx
            · rcases List.mem_append.mp hx with hx | hx
              · exact hk x (m1 x hx)
              · rw [List.mem_singleton.mp hx]; exact k2
            · exact hk x (m5 x hx)
          refine ⟨.int way, rfl, rfl, _, rfl, ite2 (fun _ => ?_) fun _ => ?_⟩
          · refine ⟨.ref o, rfl, .int k, rfl, k, rfl, da_cut (K := K) (S := S) ho hy.da fun p1 H1 y1 e1 x1 hs1 da1 l1 m1 => ?_⟩
            refine ⟨.ref o, rfl, .int k, rfl, k, 1, rfl, rfl, _, rfl, ?_⟩
            dsimp only [tNoPart]
            refine da_cut (K := K) (S := S) (x1.seqT ho) (hy.ex x1).da fun p5 H5 y5 e5 x5 hs5 da5 l5 m5 => ?_
            refine da_cat (K := K) (S := S) (x5.seqT hs1) hs5 (da1.ex x5 sub0) da5 (by omega) fun p6 H6 z6 x6 hs6 da6 => ?_
            refine fin p6 H6 z6 _ (((x1.trans x5).trans x6).mono sub0) (hd.ex ((x1.trans x5).trans x6) (by simp)) hs6 da6 (by rw [List.length_append]; omega) fun x hx => ?_
            rcases List.mem_append.mp hx with hx | hx
            · exact hk x (m1 x hx)
            · exact hk x (m5 x hx)
          refine ⟨.int way, rfl, rfl, _, rfl, ite2 (fun _ => ?_) fun _ => ?_⟩
          · refine ⟨.ref o, rfl, .ref d, rfl, .int h, rfl, d, h, S, rfl, hd, hS, fun H2 v2 d2 hv2 k2 x2 s2 => ?_⟩
            refine ⟨(by show 1 ≤ sizeLine; decide), fun t3 n3 => ?_⟩
            have x3 : Ex [] H2 (upd H2 t3 (.tup [v2])) := .new n3
            have x03 : Ex [d] H (upd H2 t3 (.tup [v2])) := x2.trans (x3.mono sub0)
            refine da_cat (K := K) (S := S) (es := [d2]) (x03.seqT ho) (.of upd_same) (hy.ex x03).da (.cons (hv2.ex x3 sub0) .nil) (by rw [List.length_singleton]; omega) fun p4 H4 z4 x4 hs4 da4 => ?_
            refine fin p4 H4 z4 _ (x03.trans (x4.mono sub0)) ((s2.ex x3 (by simp)).ex x4 (by simp)) hs4 da4 (by rw [List.length_append, List.length_singleton]; omega) fun x hx => ?_
            rcases List.mem_append.mp hx with hx | hx
            · exact hk x hx
            · rw [List.mem_singleton.mp hx]; exact k2
          refine ⟨.int way, rfl, rfl, _, rfl, ite2 (fun _ => ?_) fun _ => ?_⟩
          · refine ⟨.ref d, rfl, rfl, fun p1 n1 => ⟨p1, shKV, shK, rfl, .inl upd_same, sh_keys, by decide +kernel, fun ys1 p2 pm _ n2 => ?_⟩⟩
            have x1 : Ex [] H (upd H p1 (.dK shKV)) := .new n1
            have x2 : Ex [] (upd H p1 (.dK shKV)) (upd (upd H p1 (.dK shKV)) p2 (.lst (ys1.map V.str))) := .new n2
            refine ⟨(by show 3 ≤ sizeLine; decide), fun p3 n3 => ?_⟩
            have x3 : Ex [] (upd (upd H p1 (.dK shKV)) p2 (.lst (ys1.map V.str))) (upd (upd (upd H p1 (.dK shKV)) p2 (.lst (ys1.map V.str))) p3 (.lst ([Str.ofString "call", Str.ofString "Take", Str.ofString ""].map V.str))) := .new n3
            have yl : ys1.length = 11 := by rw [pm.length_eq]; decide +kernel
            refine ⟨p2, p3, _, _, rfl, rfl, x3.lst upd_same, upd_same, by rw [List.length_map, yl]; decide, fun p4 n4 => ?_⟩
            have s3 := ((hd.ex x1 (by simp)).ex x2 (by simp)).ex x3 (by simp)
            have em : ys1.map V.str ++ [Str.ofString "call", Str.ofString "Take", Str.ofString ""].map V.str = (ys1 ++ [Str.ofString "call", Str.ofString "Take", Str.ofString ""]).map V.str := by rw [List.map_append]
            refine ⟨d, p4, (ys1 ++ [Str.ofString "call", Str.ofString "Take", Str.ofString ""]).map V.str, rfl, s3.ex (.new n4 (xs := [])) (by simp), s3.ne n4, .of (by rw [upd_same, ← em]; rfl), by rw [List.length_map, List.length_append, yl]; decide, by rw [List.length_map, List.length_append, yl]; decide, fun H5 i x hx x5 s5 => ?_⟩
            rw [List.getElem?_map] at hx
            cases hz : (ys1 ++ [Str.ofString "call", Str.ofString "Take", Str.ofString ""])[i]? with
            | none => rw [hz] at hx; cases hx
            | some z =>
              rw [hz] at hx
              cases hx
              have lz : z.length ≤ 1000 := by
                rcases List.mem_append.mp (List.mem_of_getElem? hz) with m | m
                · exact sh_len (pm.mem_iff.mp m)
                · exact (by decide +kernel : ∀ z ∈ [Str.ofString "call", Str.ofString "Take", Str.ofString ""], z.length ≤ 1000) z m
              have x05 : Ex [d] H H5 := ((((x1.trans x2).trans x3).trans (.new n4)).mono sub0).trans x5
              refine ⟨(by show 1 ≤ sizeLine; decide), fun t6 n6 => ?_⟩
              have x6 : Ex [] H5 (upd H5 t6 (.tup [.str z])) := .new n6
              have x06 : Ex [d] H _ := x05.trans (x6.mono sub0)
              refine ⟨.ref o, rfl, 1, rfl, ?_⟩
              dsimp only [tNoPart]
              refine da_cut (K := K) (S := S) (x06.seqT ho) (hy.ex x06).da fun p7 H7 y7 e7 x7 hs7 da7 l7 m7 => ?_
              refine da_cat (K := K) (S := S) (ds := [.str z]) (.of (x7.tup upd_same)) hs7 (.cons (.str z) .nil) da7 (by rw [List.length_singleton]; omega) fun p8 H8 z8 x8 hs8 da8 => ?_
              refine fin p8 H8 z8 _ (x06.trans ((x7.trans x8).mono sub0)) (((s5.ex x6 (by simp)).ex x7 (by simp)).ex x8 (by simp)) hs8 da8 (by rw [List.length_append, List.length_singleton]; omega) fun x hx => ?_
              rcases List.mem_append.mp hx with hx | hx
              · rw [List.mem_singleton.mp hx]; exact .str lz
              · exact hk x (m7 x hx)
          · refine ⟨.ref o, rfl, o, ys, rfl, .inr ho, fun l1 n1 => ?_⟩
            have x1 : Ex [] H (upd H l1 (.lst ys)) := .new n1
            refine ⟨.ref d, rfl, .int h, rfl, d, h, S, rfl, hd.ex x1 (by simp), hasS hS x1, fun H2 v2 d2 hv2 k2 x2 s2 => ?_⟩
            refine ⟨.ref o, rfl, (by show 1 ≤ sizeLine; decide), fun t3 n3 => ?_⟩
            have x3 : Ex [] H2 (upd H2 t3 (.tup [.ref o])) := .new n3
            refine ⟨(by show 3 ≤ sizeLine; decide), fun l4 n4 => ?_⟩
            have s3 := s2.ex x3 (by simp)
            have x4 : Ex [] (upd H2 t3 (.tup [.ref o])) (upd (upd H2 t3 (.tup [.ref o])) l4 (.lst [.ref l1, v2, .ref t3])) := .new n4
            refine ⟨.ref d, rfl, d, 3, rfl, s3.ex x4 (by simp), by decide, by decide, fun H5 v5 a5 b5 x5 s5 => ?_⟩
            obtain ⟨y, e1, e2⟩ := atZ (xs := [V.ref l1, v2, V.ref t3]) a5 b5
            refine ⟨l4, _, v5, y, rfl, rfl, .of (x5.lst upd_same (by simpa using s3.ne n4)), e1, ?_⟩
            have x25 : Ex [d] H2 H5 := ((x3.trans x4).mono sub0).trans x5
            have x15 : Ex [d] (upd H l1 (.lst ys)) H5 := x2.trans x25
            have x05 : Ex [d] H H5 := (x1.mono sub0).trans x15
            have my := List.mem_of_getElem? e2
            simp only [List.mem_cons, List.not_mem_nil, or_false] at my
            rcases my with rfl | rfl | rfl
            · refine q H5 _ _ (.lst (fun z => hS _ z n1) (.of (x15.lst upd_same (by simpa using hd.ne n1))) (hy.ex x05).da) .lst x05 s5
            · exact q H5 _ d2 (hv2.ex x25 (sub1 dS)) k2 x05 s5
            · refine q H5 _ _ (.tup (.of ((x4.mono sub0).trans x5 |>.tup upd_same)) (.cons (.tup (x05.seqT ho) (hy.ex x05).da) .nil)) (.tup (by simp) fun x hx => ?_) x05 s5
              rw [List.mem_singleton.mp hx]
              exact .tup (by omega) hk))
      (pss_one (ps_ret (pe_op op_catA (pe_op op_catA (pe_slice sl_tupA (pv 1) po_none (po_some (pv 3))) (pe_tup (pa_cons (pv 4) pa_nil))) (pe_slice sl_tupA (pv 1) (po_some (pe_op op_add (pv 3) pe_int)) po_none)))))))))), ?_⟩
    refine ⟨.ref c, rfl, (by show 0 ≤ sizeLine; decide), fun Z nZ => ?_⟩
    have xZ : Ex [] H (upd H Z (.tup [])) := .new nZ
    refine ⟨c, Z, xs, rfl, rfl, xZ.seqT hc, .of upd_same, _, rfl, ite2 (fun e => ?_) fun e => ?_⟩
    · refine ⟨.ref d, rfl, .int h, rfl, d, h, S, rfl, hd.ex xZ (by simp), hasS hS xZ, fun H1 v1 d1 hv1 k1 x1 s1 => ?_⟩
      refine ⟨(by show 0 ≤ sizeLine; decide), fun l2 n2 => ?_⟩
      have x2 : Ex [] H1 (upd H1 l2 (.lst [])) := .new n2
      have x02 : Ex [d] H (upd H1 l2 (.lst [])) := ((xZ.mono sub0).trans x1).trans (x2.mono sub0)
      refine ⟨.ref d, rfl, .int h, rfl, d, h, S, rfl, s1.ex x2 (by simp), hasS hS x02, fun H3 v3 d3 hv3 k3 x3 s3 => ?_⟩
      refine ⟨(by show 1 ≤ sizeLine; decide), fun t4 n4 => ?_⟩
      have x4 : Ex [] H3 (upd H3 t4 (.tup [v3])) := .new n4
      refine ⟨(by show 3 ≤ sizeLine; decide), fun l5 n5 => ?_⟩
      have s4 := s3.ex x4 (by simp)
      have x5 : Ex [] (upd H3 t4 (.tup [v3])) (upd (upd H3 t4 (.tup [v3])) l5 (.lst [v1, .ref l2, .ref t4])) := .new n5
      refine ⟨.ref d, rfl, d, 3, rfl, s4.ex x5 (by simp), by decide, by decide, fun H6 v6 a6 b6 x6 s6 => ?_⟩
      obtain ⟨y, e1, e2⟩ := atZ (xs := [v1, V.ref l2, V.ref t4]) a6 b6
      refine ⟨l5, _, v6, y, rfl, rfl, .of (x6.lst upd_same (by simpa using s4.ne n5)), e1, ?_⟩
      have x36 : Ex [d] H3 H6 := ((x4.trans x5).mono sub0).trans x6
      have x26 : Ex [d] (upd H1 l2 (.lst [])) H6 := x3.trans x36
      have x16 : Ex [d] H1 H6 := (x2.mono sub0).trans x26
      have x06 : Ex [d] H H6 := x02.trans x26
      have my := List.mem_of_getElem? e2
      simp only [List.mem_cons, List.not_mem_nil, or_false] at my
      rcases my with rfl | rfl | rfl
      · exact q H6 _ d1 (hv1.ex x16 (sub1 dS)) k1 x06 s6
      · refine q H6 _ _ (.lst (fun z => hS _ z (((xZ.mono sub0).trans x1).f _ n2)) (.of (x26.lst upd_same (by simpa using s1.ne n2))) .nil) .lst x06 s6
      · refine q H6 _ _ (.tup (.of ((x5.mono sub0).trans x6 |>.tup upd_same)) (.cons (hv3.ex x36 (sub1 dS)) .nil)) (.tup (by simp) fun x hx => ?_) x06 s6
        rw [List.mem_singleton.mp hx]; exact k3
    · have l1 := hx.len
      have lp : 0 < xs.length := by
        cases xs with
        | nil => exact absurd rfl e
        | cons _ _ => simp
      refine ⟨.ref d, rfl, .ref c, rfl, c, xs, rfl, .inr (xZ.seqT hc), d, _, rfl, hd.ex xZ (by simp), by omega, by omega, fun H1 v1 a1 b1 x1 s1 => ?_⟩
      have x01 : Ex [d] H H1 := (xZ.mono sub0).trans x1
      obtain ⟨o, e1, e2⟩ := atZ (xs := xs) a1 b1
      refine ⟨.ref c, rfl, .int v1, rfl, c, xs, v1, o, rfl, rfl, x01.seqT hc, e1, ?_⟩
      obtain ⟨od, e3, to⟩ := hx.get e2
      obtain ⟨os, rfl, o1, o2, o3⟩ := ho od (List.mem_of_getElem? e3)
      cases to with
      | tup so ao =>
        rename_i oa ys
        have ol := ao.len
        refine ⟨.ref d, rfl, .ref oa, rfl, oa, ys, rfl, .inr (x01.seqT so), d, _, rfl, s1, by omega, by omega, fun H2 v2 a2 b2 x2 s2 => ?_⟩
        refine ⟨.ref d, rfl, d, 7, rfl, s2, by decide, by decide, fun H3 v3 a3 b3 x3 s3 => ?_⟩
        have x03 : Ex [d] H H3 := (x01.trans x2).trans x3
        refine ⟨d, oa, .ref c, .int v1, h, v2, v3, S, ys, os, rfl, s3, dS, hasS hS x03, x03.seqT so, ao.ex x03, o3, o2, fun H4 v4 d4 hv4 k4 x4 s4 => ?_⟩
        have x04 := x03.trans x4
        refine ⟨.ref c, rfl, .int v1, rfl, v1, rfl, da_cut (K := K) (S := S) (x04.seqT hc) (hx.ex x04).da fun p5 H5 y5 e5 x5 hs5 da5 l5 m5 => ?_⟩
        refine ⟨v4, rfl, (by show 1 ≤ sizeLine; decide), fun t6 n6 => ?_⟩
        have x6 : Ex [] H5 (upd H5 t6 (.tup [v4])) := .new n6
        refine da_cat (K := K) (S := S) (es := [d4]) (x6.seqT hs5) (.of upd_same) (da5.ex x6 sub0) (.cons (hv4.ex (x5.trans x6) sub0) .nil) (by rw [List.length_singleton]; omega) fun p7 H7 z7 x7 hs7 da7 => ?_
        refine ⟨.ref c, rfl, .int v1, rfl, v1, 1, rfl, rfl, _, rfl, ?_⟩
        have x07 : Ex [d] H H7 := x04.trans (((x5.trans x6).trans x7).mono sub0)
        dsimp only [tNoPart]
        refine da_cut (K := K) (S := S) (x07.seqT hc) (hx.ex x07).da fun p8 H8 y8 e8 x8 hs8 da8 l8 m8 => ?_
        refine da_cat (K := K) (S := S) (x8.seqT hs7) hs8 (da7.ex x8 sub0) da8 (by rw [List.length_append, List.length_singleton]; omega) fun p9 H9 z9 x9 hs9 da9 => ?_
        refine q H9 _ _ (.tup hs9 da9) (.tup (by rw [List.length_append, List.length_append, List.length_singleton]; omega) fun x hx => ?_) (x07.trans ((x8.trans x9).mono sub0)) (s4.ex ((((x5.trans x6).trans x7).trans x8).trans x9) (by simp))
        rcases List.mem_append.mp hx with hx | hx
        · rcases List.mem_append.mp hx with hx | hx
          · exact (ho x (m5 x hx)).dk
          · rw [List.mem_singleton.mp hx]; exact k4
        · exact (ho x (m8 x hx)).dk
end
end K43

namespace Kk
open PySem PySem.Spec PyProof.Rows L2 RZ
/-! zip of a text and a tuple -/
def ItzS (K : PySem.W.Frag) (x : Str) (b : Addr) : It :=
  ⟨fun i H => ∃ (ys : List V) (c : Nat) (y : V), SqT K H b ys ∧ x.cps[i]? = some c ∧ ys[i]? = some y,
    fun i H v H' => ∃ T c y, v = .ref T ∧ H T = none ∧ H' = upd H T (.tup [.str ⟨#[c]⟩, y]) ∧ x.cps[i]? = some c ∧ ∀ ys, SqT K H b ys → ys[i]? = some y,
    fun i H => ∃ ys : List V, SqT K H b ys ∧ i ≤ x.cps.size ∧ i ≤ ys.length ∧ (i = x.cps.size ∨ i = ys.length)⟩
theorem turn_zipS {P : Program} {w : World} {K : PySem.W.Frag} {elts : List Expr} {kk : Nat} {tpos : Pos} {x : Str} {t : Tok} {b z TI TO i1 i2 : Addr} (D : ZipSep2 z TI TO i1 i2 [i1] [i2, b]) (hne : b ≠ i2) :
    Turn P w K (.Tuple elts kk tpos) (ItzS K x b) [z, TI, TO, i1, i2] z (fun i h => IsZip h z TI TO .none ∧ IsTupOf2 h TI (.ref i1) (.ref i2) ∧ (∃ x y, IsTupOf2 h TO x y) ∧ h.IsStrIter i1 (strIterType x) x t i ∧ h.IsTupleIter i2 b i) where
  mem := by simp
  obj := fun i h st c hc => by
    obtain ⟨hz, hTI, ⟨x, y, hTO⟩, ⟨o1, e1, _, d1⟩, ⟨o2, e2, _, d2⟩⟩ := st
    have e' : c = z ∨ c = TI ∨ c = TO ∨ c = i1 ∨ c = i2 := by simpa using hc
    rcases e' with q | q | q | q | q
    · rw [q]; exact ⟨_, hz, fun v q => nomatch q⟩
    · rw [q]; exact ⟨_, hTI, fun v q => nomatch q⟩
    · rw [q]; exact ⟨_, hTO, fun v q => nomatch q⟩
    · rw [q]; exact ⟨o1, e1, fun v q => by rw [d1] at q; cases q⟩
    · rw [q]; exact ⟨o2, e2, fun v q => by rw [d2] at q; cases q⟩
  keep := fun i h h' st k => by
    obtain ⟨hz, hTI, ⟨x, y, hTO⟩, ⟨o1, e1, r1⟩, h2⟩ := st
    exact ⟨k z (by simp) _ hz, k TI (by simp) _ hTI, ⟨x, y, k TO (by simp) _ hTO⟩, ⟨o1, k i1 (by simp) o1 e1, r1⟩, h2.at fun o q => k i2 (by simp) o q⟩
  item := by
    intro X hP hw hK hc i pins s σ H E I hf st hg
    subst hP hw hK
    obtain ⟨hz, hTI, ⟨x0, y0, hTO⟩, h1, h2⟩ := st
    obtain ⟨ys, c, y, hqy, hx, hy⟩ := hg
    obtain ⟨its2, rv2, p2, _⟩ := I.tuple hqy
    obtain ⟨u2, hu2, ru2⟩ := rv2.get hy
    have hzl : z < s.heap.objs.size := Heap.lt_size hz
    have hh : X.A.in1.handled = none := I.ok.hd hc
    have lt1 : i < x.cps.size := (Array.getElem?_eq_some_iff.mp hx).1
    have lt2 : i < its2.toArray.size := by
      have := (List.getElem?_eq_some_iff.mp hu2).1
      simpa using this
    refine wpAny_pyNext_zipD2_item D (Draws.text hh i1 x t) (Draws.tuple hh i2 b hne its2.toArray) hz hTI hTO h1 ⟨h2, p2⟩ lt1 lt2 fun x1 x2 h' tk y1 y2 z' TO' h1' h2' hT hsz hk => ?_
    obtain ⟨c1, t1, ec1, rfl⟩ := y1
    rw [hx] at ec1
    cases ec1
    have y2 : its2.toArray[i]? = some x2 := y2
    have e2 : x2 = u2 := by
      have : its2.toArray[i]? = some u2 := by simpa using hu2
      rw [this] at y2
      exact (Option.some.inj y2).symm
    subst e2
    refine ⟨_, rfl, wpAny_letOwnedTupleGo_zip (s := { s with heap := h', toks := tk }) z' fun h'' z'' sb => ?_⟩
    have hT2 : h''.get? s.heap.objs.size = some { cls := .type "tuple", data := .seq #[.str ⟨#[c]⟩ t1, x2] } := (sb.2 _ (Nat.ne_of_gt hzl)).trans hT
    have new : ObjOk X.prog X.w (upd H s.heap.objs.size (.tup [.str ⟨#[c]⟩, y])) h'' s.heap.objs.size (.tup [.str ⟨#[c]⟩, y]) :=
      ⟨by show 2 ≤ sizeLine; decide, [.str ⟨#[c]⟩ t1, x2], .cons ⟨t1, rfl⟩ (.cons ru2 .nil), ⟨_, hT2, rfl, _, rfl⟩⟩
    have I1 : Inv X pins σ (upd H s.heap.objs.size (.tup [.str ⟨#[c]⟩, y])) { s with heap := h'', toks := tk } :=
      I.turnedNew (t' := tk) (ch := [z, TI, TO, i1, i2]) (fun c o hb q => (sb.2 c (fun q' => hb (by simp [q']))).trans (hk c o (fun q' => hb (by simp [q'])) (fun q' => hb (by simp [q'])) (fun q' => hb (by simp [q'])) (fun q' => hb (by simp [q'])) q)) hf (Nat.le_refl _) new
    refine ⟨.ref s.heap.objs.size, _, I1, rfl, ⟨_, c, y, rfl, I.hok.fresh (Nat.le_refl _), rfl, hx, fun l hl => by rw [I.tuple_inj hl hqy]; exact hy⟩, ⟨z'', ?_, ⟨.str ⟨#[c]⟩ t1, x2, ?_⟩, ?_, ?_⟩, fun c hcm => ?_⟩
    · exact (sb.2 _ D.TIz).trans (hk _ _ D.TIz D.TITO D.TIi1 D.TIi2 hTI)
    · exact (sb.2 _ D.TOz).trans TO'
    · obtain ⟨o1, e1, r1⟩ := h1'
      exact ⟨o1, (sb.2 _ D.zi1.symm).trans e1, r1⟩
    · exact h2'.1.at fun o q => (sb.2 _ D.zi2.symm).trans q
    · have hlt : c < s.heap.objs.size := by
        have e' : c = z ∨ c = TI ∨ c = TO ∨ c = i1 ∨ c = i2 := by simpa using hcm
        rcases e' with q | q | q | q | q
        · rw [q]; exact hzl
        · rw [q]; exact Heap.lt_size hTI
        · rw [q]; exact Heap.lt_size hTO
        · rw [q]; obtain ⟨_, e1, _⟩ := h1; exact Heap.lt_size e1
        · rw [q]; obtain ⟨_, e2, _⟩ := h2; exact Heap.lt_size e2
      rw [upd_ne (Nat.ne_of_lt hlt)]
      exact (hf c hcm).1
  done := by
    intro X hP hw hK hc i pins s σ H E I hf st hg
    subst hP hw hK
    obtain ⟨hz, hTI, ⟨x0, y0, hTO⟩, h1, h2⟩ := st
    obtain ⟨ys, hqy, le1, le2, hend⟩ := hg
    obtain ⟨its2, rv2, p2, _⟩ := I.tuple hqy
    have l2 : ys.length = its2.toArray.size := by simpa using rv2.length
    have hh : X.A.in1.handled = none := I.ok.hd hc
    exact wpAny_pyNext_zipD2_end D (Draws.text hh i1 x t) (Draws.tuple hh i2 b hne its2.toArray) hz hTI hTO h1 ⟨h2, p2⟩ le1 (by omega) (by omega) fun h' tk hk => ⟨rfl, I.turnedL (t' := tk) (ch := [z, TI, TO, i1, i2]) (fun c o hb q =>
      hk c o (fun q' => hb (by simp [q'])) (fun q' => hb (by simp [q'])) (fun q' => hb (by simp [q'])) (fun q' => hb (by simp [q'])) q) hf⟩
  self := fun A i s Q E st h => wpAny_pyIter_zip st.1 h
def iZipS (K : PySem.W.Frag) (ta : TA) : TI := fun σ H R => ta σ H fun vs H1 => ∃ x b ys, vs = [.str x, .ref b] ∧ SqT K H1 b ys ∧ R (ItzS K x b) H1
theorem pi_zipS {X : Cx} {e e2 : Expr} {ta : TA} {p pos tpos : Pos} {elts : List Expr} {kk : Nat} (hg : Gl X "zip") (hm : X.mg "zip" = none) (ha : PA X [e, e2] ta)
    (hs : starEach [e, e2] X.env = (false, eval e X.env) :: starEach [e2] X.env := by rfl) (hpl : (backTo pos (starEach [e2] X.env)).any (·.1) = false := by rfl) :
    PI X (.Tuple elts kk tpos) (.Call (.Name "zip" p) [e, e2] [] pos) (iZipS X.K ta) := by
  refine ⟨fun pins s σ H R I h => ?_⟩
  refine Call_ (ld_blt I hg hm PyProof.Rows.boot_zip (PyProof.Rows.callWith_type1 (thn (ha.run pos pins s σ H _ I h) fun us s1 ⟨vs, H1, I1, r1, q1⟩ => ?_) hs hpl))
  obtain ⟨x, b, ys, ex, hqy, q⟩ := q1
  subst ex
  cases r1 with
  | cons r rr =>
    cases rr with
    | cons r' rr =>
      cases rr
      obtain ⟨t, rfl⟩ := r
      cases r'
      have fresh5 : ∀ c, c ∈ [s1.heap.objs.size + 4, s1.heap.objs.size + 2, s1.heap.objs.size + 3, s1.heap.objs.size, s1.heap.objs.size + 1] → FpOk X pins H1 c := fun c hcm => by
        have e' : c = s1.heap.objs.size + 4 ∨ c = s1.heap.objs.size + 2 ∨ c = s1.heap.objs.size + 3 ∨ c = s1.heap.objs.size ∨ c = s1.heap.objs.size + 1 := by simpa using hcm
        have hle : s1.heap.objs.size ≤ c := by
          rcases e' with z | z | z | z | z
          · rw [z]; exact Nat.le_add_right _ _
          · rw [z]; exact Nat.le_add_right _ _
          · rw [z]; exact Nat.le_add_right _ _
          · rw [z]; exact Nat.le_refl _
          · rw [z]; exact Nat.le_add_right _ _
        exact I1.fpOk hle (I1.hok.fresh hle)
      obtain ⟨its2, rv2, p2, _⟩ := I1.tuple hqy
      obtain ⟨o2, ho2, _⟩ := id p2
      have blt : b < s1.heap.objs.size := Heap.lt_size ho2
      refine zip_begins2 (begins_text x t) (begins_tuple b its2.toArray) trivial p2 fun h' hz hTI hTO g1 g2 hsz hk => wpAny_pyIter_zip hz ?_
      have I2 : Inv X pins σ H1 { s1 with heap := h' } := I1.kept (t' := s1.toks) hk
      have nb : ∀ k : Nat, (s1.heap.objs.size + k : Nat) ≠ b := fun k z => absurd blt (Nat.not_lt.mpr (by rw [← z]; exact Nat.le_add_right _ _))
      have nk : ∀ j k : Nat, j ≠ k → (s1.heap.objs.size + j : Nat) ≠ s1.heap.objs.size + k := fun j k e => by omega
      refine ⟨s1.heap.objs.size + 4, [s1.heap.objs.size + 4, s1.heap.objs.size + 2, s1.heap.objs.size + 3, s1.heap.objs.size, s1.heap.objs.size + 1], _, _, H1, rfl, I2, turn_zipS (t := t) ?_ (nb 1).symm, ⟨hz, hTI, ⟨_, _, hTO⟩, ⟨_, g1, rfl, rfl⟩, ⟨_, g2, rfl, rfl⟩⟩, fresh5, q⟩
      exact ⟨nk 2 4 (by decide), nk 3 4 (by decide), nk 2 3 (by decide), nk 2 0 (by decide), by simp, fun z => nk 4 0 (by decide) (List.mem_singleton.mp z), fun z => nk 3 0 (by decide) (List.mem_singleton.mp z), nk 2 1 (by decide), by simp,
        fun z => by rcases List.mem_cons.mp z with z | z; exact nk 4 1 (by decide) z; exact nb 4 (List.mem_singleton.mp z),
        fun z => by rcases List.mem_cons.mp z with z | z; exact nk 3 1 (by decide) z; exact nb 3 (List.mem_singleton.mp z),
        fun z => by rcases List.mem_cons.mp z with z | z; exact nk 0 1 (by decide) z; exact nb 0 (List.mem_singleton.mp z),
        fun z => nk 1 0 (by decide) (List.mem_singleton.mp z)⟩
def YSgn (x : Str) (f : Nat → Option V) : Nat → Hp → V → Hp → Prop := fun i H v H' => ∃ T c y, v = .ref T ∧ H T = none ∧ H' = upd H T (.tup [.str ⟨#[c]⟩, y]) ∧ x.cps[i]? = some c ∧ f i = some y
theorem walk_zipS {K : PySem.W.Frag} {x : Str} {b : Addr} {ys : List V} {n : Nat} (hn : n = min x.cps.size ys.length) : Walk (ItzS K x b) n (fun H => SqT K H b ys) (YSgn x fun i => ys[i]?) := by
  subst hn
  refine ⟨fun i _ hi q => ?_, fun _ q => ⟨ys, q, by omega, by omega, by omega⟩, fun i H v H' _ q y => ?_⟩
  · have h1 : i < x.cps.size := by omega
    have h2 : i < ys.length := by omega
    exact ⟨ys, x.cps[i], ys[i], q, by simp [h1], by simp [h2]⟩
  · obtain ⟨T, c, z, h1, h2, h3, h4, h5⟩ := y
    exact ⟨T, c, z, h1, h2, h3, h4, h5 ys q⟩
end Kk

set_option maxHeartbeats 4000000
namespace K43
open PySem PySem.Spec PyProof.Rows L2 Kk RZ
abbrev s_below : Stmt := topS 25
abbrev s_lname : Stmt := topS 26
abbrev s_ispart : Stmt := topS 27
abbrev n_lname : List Str := ["_law_thing", "_law_words", "_law_sign"]
theorem sc_below : FnScope ["_law_thing", "_law_end"] ["_law_thing", "_law_end"] (defScope s_below) := ⟨rfl, rfl, rfl, by decide +kernel, rfl, by decide +kernel, by decide +kernel⟩
theorem sc_lname : FnScope n_lname ["_law_thing"] (defScope s_lname) := ⟨rfl, rfl, rfl, by decide +kernel, rfl, by decide +kernel, by decide +kernel⟩
theorem sc_ispart : FnScope ["_law_sign", "_law_thing", "_law_hands"] ["_law_sign", "_law_thing", "_law_hands"] (defScope s_ispart) := ⟨rfl, rfl, rfl, by decide +kernel, rfl, by decide +kernel, by decide +kernel⟩
def wds1 : Str := Str.ofString "take ask number copy mix open tell wipe clear drop choose"
def wds2 : Str := Str.ofString " loop out risk fault call back def main"
theorem wds_tong : (Txt.split (wds1 ++ wds2) (Str.ofString " ")).map V.str = tongV := by decide +kernel
section
variable {P : Program} {w : World} {K : PySem.W.Frag} {mg : Str → Option Value} {base : Heap}
def spBelow (K : PySem.W.Frag) : Sp := fun vs H Q _ => ∃ (v : V) (d : PyData) (e : Int), vs = [v, .int e] ∧ Dp K H v d ∧ Q (.bl (belowD e d)) H
theorem ok_below {f : Addr} {fd : FuncData} {k : Nat} (F : Fun K "_law_is_below" "_law_is_below" s_below f fd) (m_isinstance : mg "isinstance" = none) (m_int : mg "int" = none) (m_bool : mg "bool" = none) : FnOk P w K mg base CX0 (k + 1) f fd ["_law_thing", "_law_end"] (spBelow K) := by
  refine F.ok sc_below (fun vs H Q E h => ?_) (fun cdv A outer s H vs Q E hr h => ?_)
  · obtain ⟨v, d, e, rfl, _⟩ := h; rfl
  · obtain ⟨v, d, en, rfl, hd, q⟩ := h
    refine ⟨_, (pss_one (ps_ret (pe_and (pe_callB call_isi (by rfl) m_isinstance (by decide +kernel) (pa_cons (pv 0) (pa_cons (pe_bltn (v := .ty "int") (by rfl) m_int (by decide +kernel) rfl) pa_nil))) (pe_and (pe_not (pe_callB call_isi (by rfl) m_isinstance (by decide +kernel) (pa_cons (pv 0) (pa_cons (pe_bltn (v := .ty "bool") (by rfl) m_bool (by decide +kernel) rfl) pa_nil)))) (pe_one (pe_chain op_le op_lt pe_int (pv 0) (pv 1))))))), ?_⟩
    refine ⟨v, rfl, v, .ty "int", .type (tyN d), .type "int", intD d, rfl, .ty "int", dp_ty hd, kit_ty (kit_int d), _, rfl, ite2 (fun e => ?_) fun e => ?_⟩
    · refine ⟨v, rfl, v, .ty "bool", .type (tyN d), .type "bool", blD d, rfl, .ty "bool", dp_ty hd, kit_ty (kit_bool d), _, rfl, _, rfl, ite2 (fun e2 => ?_) fun e2 => ?_⟩
      · obtain ⟨n, rfl⟩ : ∃ n, d = .int n := by
          cases d <;> first | exact ⟨_, rfl⟩ | exact absurd e Bool.false_ne_true | exact absurd e2 Bool.false_ne_true
        cases hd
        rw [below_int] at q
        refine ⟨.int n, rfl, 0, n, rfl, rfl, _, rfl, ite2 (fun b => ⟨.int en, rfl, n, en, rfl, rfl, ?_⟩) fun b => ?_⟩
        · rw [b, Bool.true_and] at q; exact q
        · have b2 : decide (0 ≤ n) = false := by cases z : decide (0 ≤ n) with | false => rfl | true => exact absurd z b
          rw [b2, Bool.false_and] at q; exact q
      · have e3 : belowD en d = false := by cases d <;> first | rfl | exact absurd rfl e2
        rw [e3] at q; exact q
    · have e3 : belowD en d = false := by cases d <;> first | rfl | exact absurd rfl e
      rw [e3] at q; exact q
def spLName (K : PySem.W.Frag) : Sp := fun vs H Q _ => ∃ (v : V) (d : PyData), vs = [v] ∧ Dp K H v d ∧ Dk d ∧ ∀ H', Ex [] H H' → Q (.bl (nameD d)) H'
theorem ok_lname {f : Addr} {fd : FuncData} {k : Nat} (F : Fun K "_law_is_name" "_law_is_name" s_lname f fd) (m_isinstance : mg "isinstance" = none) (m_str : mg "str" = none) (m_len : mg "len" = none) : FnOk P w K mg base CX0 (k + 1) f fd ["_law_thing"] (spLName K) := by
  refine F.ok sc_lname (fun vs H Q E h => ?_) (fun cdv A outer s H vs Q E hr h => ?_)
  · obtain ⟨v, d, rfl, _⟩ := h; rfl
  · obtain ⟨v, d, rfl, hd, dk, q⟩ := h
    refine ⟨_, (pss_cons (ps_set (i := 1) sc_lname.nd rfl (.inl rfl) pe_str)
      (pss_cons (ps_set (i := 1) sc_lname.nd rfl (.inl rfl) (pe_split (pe_op op_add_str (pv 1) pe_str) pe_str))
      (pss_cons (ps_if (PW.pt (pw_or (pt_not (pt_val (pe_callB call_isi (by rfl) m_isinstance (by decide +kernel) (pa_cons (pv 0) (pa_cons (pe_bltn (v := .ty "str") (by rfl) m_str (by decide +kernel) rfl) pa_nil))))) (pw_or (pt_not (pt_chain op_le op_le pe_int (pe_callB call_len_str (by rfl) m_len PySem.boot_len (pa_cons (pv 0) pa_nil)) pe_int)) (pw_or1 (pt_cmpR op_in_seq (pv 0) (pv 1) rfl))))) (pss_one (ps_ret pe_bl)) pss_nil)
      (pss_one (ps_ret (pe_cmpR (op_eq_nil hr) (pe_lc (own := [("_law_sign", 2)]) (g := gName 2) rfl sc_lname.nd (pi_str (pv 0)) (blkOk_by (N := n_lname) (sc := defScope s_lname) (by decide +kernel)) (fun _ _ _ _ _ => pg_name (i := 2) sc_lname.nd rfl (Or.inl rfl)) (fun _ _ _ _ _ => pts_one (pt_cmpR op_notIn_sign (pv 2) pe_str rfl)) (fun _ _ _ _ _ => (pv 2))) (pe_lst pa_nil) (nomark _))))))), ?_⟩
    refine ⟨.str wds1, rfl, wds1, wds2, rfl, rfl, by decide +kernel, ⟨_, rfl⟩, _, Str.ofString " ", rfl, rfl, by decide +kernel, by decide +kernel, fun T nT => ?_⟩
    rw [wds_tong]
    have xT : Ex [] H (upd H T (.lst tongV)) := .new nT
    have no : nameD d = false → ∀ H', Ex [] H H' → Q (.bl false) H' := fun e H' x => by
      have q2 := q H' x
      rw [e] at q2; exact q2
    refine ⟨v, rfl, v, .ty "str", .type (tyN d), .type "str", strD d, rfl, .ty "str", dp_ty (dp_ex xT hd), kit_ty (kit_str d), _, rfl, ite2 (fun e => ?_) fun e => ?_⟩
    · refine iteT (no ?_ _ xT)
      cases d <;> first | rfl | exact absurd e Bool.false_ne_true
    obtain ⟨a, rfl⟩ : ∃ a, d = .str a := by cases d <;> first | exact ⟨_, rfl⟩ | exact absurd rfl e
    cases hd
    cases dk with
    | str ha =>
    have bad : (decide ((1 : Int) ≤ (a.length : Int)) && decide ((a.length : Int) ≤ 8)) = false → ∀ H', Ex [] H H' → Q (.bl false) H' := fun e => no (by
      show nameB a = false
      unfold nameB
      rw [e, Bool.and_false, Bool.false_and])
    have good : ∀ (e : (decide ((1 : Int) ≤ (a.length : Int)) && decide ((a.length : Int) ≤ 8)) = true) (e2 : inV (.str a) tongV = false), nameD (.str a) = allAbc a := fun e e2 => by
      show nameB a = allAbc a
      unfold nameB; rw [e, e2]; rfl
    refine ⟨.str a, rfl, a, rfl, len_line ha, 1, (a.length : Int), rfl, rfl, _, rfl, ite2 (fun e4 => ?_) (fun e4 => ?_)⟩
    · refine ⟨_, 8, rfl, rfl, _, rfl, ite2 (fun e5 => ?_) (fun e5 => ?_)⟩
      · refine iteT (bad ?_ _ xT)
        have e6 : decide ((a.length : Int) ≤ 8) = false := by
          have e7 : (!decide ((a.length : Int) ≤ 8)) = true := e5
          rw [Bool.not_eq_true'] at e7; exact e7
        rw [e6, Bool.and_false]
      · have e6 : decide ((a.length : Int) ≤ 8) = true := by
          cases z : decide ((a.length : Int) ≤ 8) with
          | true => rfl
          | false =>
            have : (!decide ((a.length : Int) ≤ 8)) = true := by rw [z]; rfl
            exact absurd this e5
        refine ⟨.str a, rfl, .ref T, rfl, T, tongV, rfl, .inl (.of upd_same), rfl, flat_tong, _, rfl, ite2 (fun c => ?_) (fun c => ?_)⟩
        · have c2 : inV (.str a) tongV = true := c
          refine no ?_ _ xT
          show nameB a = false
          unfold nameB
          rw [c2]; rfl
        · have c2 : inV (.str a) tongV = false := by cases z : inV (.str a) tongV with | false => rfl | true => exact absurd z c
          have en := good (by rw [e4, e6]; rfl) c2
          refine ⟨.str a, rfl, a, rfl, fun D nD => ?_⟩
          have sz : a.cps.size = a.cps.toList.length := by simp
          refine lc_it walk_str (fun i H2 => ∃ acc, H2 D = some (.lst acc) ∧ acc.length ≤ i ∧ i ≤ a.cps.size ∧ acc.isEmpty = (a.cps.toList.take i).all (fun c => decide (c ∈ abc.cps.toList)) ∧ Ex [] H H2) ?_ (fun _ _ _ _ => trivial) ?_ ?_
          · exact ⟨[], upd_same, Nat.le_refl _, Nat.zero_le _, rfl, xT.trans (.new nD)⟩
          · intro i x H2 H3 hi ⟨acc, hD, hl, hi2, he, x2⟩ ⟨e, c, hc, ex⟩
            subst e ex
            have tk : a.cps.toList.take (i + 1) = a.cps.toList.take i ++ [c] := by
              rw [List.take_add_one]
              have : a.cps.toList[i]? = some c := by rw [Array.getElem?_toList]; exact hc
              rw [this]; rfl
            have hlen : a.cps.size ≤ 1000 := ha
            refine ⟨rfl, ?_⟩
            refine ⟨.str ⟨#[c]⟩, rfl, c, abc, rfl, rfl, _, rfl, ite2 (fun c1 => ?_) (fun c1 => ?_)⟩
            · refine ⟨_, rfl, acc, hD, Nat.lt_of_le_of_lt (show acc.length ≤ 1000 by omega) (by decide), acc ++ [_], upd_same, by rw [List.length_append]; simp; omega, by omega, ?_, Ex.own ((xT.f D nD)) x2 (.put hD nt_lst (by simp))⟩
              have c3 : decide (c ∈ abc.cps.toList) = false := by
                have c4 : (!decide (c ∈ abc.cps.toList)) = true := c1
                rw [Bool.not_eq_true'] at c4; exact c4
              rw [tk, List.all_append, List.all_cons, c3, Bool.false_and, Bool.and_false]
              simp
            · refine ⟨acc, hD, by omega, by omega, ?_, x2⟩
              have c3 : decide (c ∈ abc.cps.toList) = true := by
                cases z : decide (c ∈ abc.cps.toList) with
                | true => rfl
                | false =>
                  have : (!decide (c ∈ abc.cps.toList)) = true := by rw [z]; rfl
                  exact absurd this c1
              rw [tk, List.all_append, List.all_cons, c3, he]; simp
          · intro H2 ⟨acc, hD, hl, hi2, he, x2⟩
            refine ⟨Nat.zero_le _, fun Z nZ => ?_⟩
            have x3 : Ex [] H2 (upd H2 Z (.lst [])) := .new nZ
            refine ⟨D, Z, acc, rfl, rfl, .of (x3.lst hD), .of upd_same, ?_⟩
            have q2 := q _ (x2.trans x3)
            rw [en] at q2
            rw [he, sz, List.take_length]
            exact q2
    · refine ⟨false, rfl, iteT (iteT (bad ?_ _ xT))⟩
      have e6 : decide ((1 : Int) ≤ (a.length : Int)) = false := by cases z : decide ((1 : Int) ≤ (a.length : Int)) with | false => rfl | true => exact absurd z e4
      rw [e6, Bool.false_and]
/-- signs and kinds -/
def sgT : List (Nat × Str) := [(104, Str.ofString "hand"), (119, Str.ofString "name"), (115, Str.ofString "slot"), (110, Str.ofString "number")]
def endOf (h : Int) (c : Nat) : Int := if c = 104 then h else if c = 115 then 60 else 10000
def lpartD (h : Int) (c : Nat) (d : PyData) : Bool := if c = 119 then nameD d else belowD (endOf h c) d
theorem lpart_part {c : Nat} {kd : Str} (m : (c, kd) ∈ sgT) (h : Int) (d : PyData) : lpartD h c d = partD h kd d := by
  simp only [sgT, List.mem_cons, List.not_mem_nil, or_false, Prod.mk.injEq] at m
  rcases m with ⟨rfl, rfl⟩ | ⟨rfl, rfl⟩ | ⟨rfl, rfl⟩ | ⟨rfl, rfl⟩
  · unfold lpartD partD endOf
    rw [if_neg (by decide), if_pos rfl, if_neg (by decide +kernel), if_pos rfl]
  · unfold lpartD partD
    rw [if_pos rfl, if_pos rfl]
  · unfold lpartD partD endOf
    rw [if_neg (by decide), if_neg (by decide), if_pos rfl, if_neg (by decide +kernel), if_neg (by decide +kernel), if_pos rfl]
  · unfold lpartD partD endOf
    rw [if_neg (by decide), if_neg (by decide), if_neg (by decide), if_neg (by decide +kernel), if_neg (by decide +kernel), if_neg (by decide +kernel)]
def endKV (h : Int) : List (Key × V) := [(.inr (Str.ofString "h"), .int h), (.inr (Str.ofString "s"), .int 60), (.inr (Str.ofString "n"), .int 10000)]
theorem end_val {c : Nat} (h : Int) (m : c = 104 ∨ c = 115 ∨ c = 110) : valV (endKV h) (.inr ⟨#[c]⟩) = some (.int (endOf h c)) := by
  rcases m with rfl | rfl | rfl <;> rfl
def spIsPart (K : PySem.W.Frag) : Sp := fun vs H Q _ => ∃ (c : Nat) (v : V) (d : PyData) (h : Int), vs = [.str ⟨#[c]⟩, v, .int h] ∧ (c = 104 ∨ c = 119 ∨ c = 115 ∨ c = 110) ∧ Dp K H v d ∧ Dk d ∧ ∀ H', Ex [] H H' → Q (.bl (lpartD h c d)) H'
theorem ok_ispart {f f1 f2 : Addr} {fd d1 d2 : FuncData} {k : Nat} (F : Fun K "_law_is_part" "_law_is_part" s_ispart f fd) (C__law_is_name : Cl P w K mg base k "_law_is_name" ["_law_thing"] (spLName K) f1 d1)
    (C__law_is_below : Cl P w K mg base k "_law_is_below" ["_law_thing", "_law_end"] (spBelow K) f2 d2) : FnOk P w K mg base CX0 (k + 1) f fd ["_law_sign", "_law_thing", "_law_hands"] (spIsPart K) := by
  refine F.ok sc_ispart (fun vs H Q E h => ?_) (fun cdv A outer s H vs Q E hr h => ?_)
  · obtain ⟨c, v, d, h, rfl, _⟩ := h; rfl
  · obtain ⟨c, v, d, h, rfl, hc, hd, dk, q⟩ := h
    refine ⟨_, (pss_cons (ps_if (pt_cmpR op_eq (pv 0) pe_str (nomark _)) (pss_one (ps_ret (pe_call C__law_is_name.g hr (by rfl) C__law_is_name.m C__law_is_name.k C__law_is_name.b .nil pass0 (pa_cons (pv 1) pa_nil)))) pss_nil)
      (pss_one (ps_ret (pe_call C__law_is_below.g hr (by rfl) C__law_is_below.m C__law_is_below.k C__law_is_below.b .nil pass0 (pa_cons (pv 1) (pa_cons (pe_dget (hu_of hr) (pe_disp (pps_cons pe_str (pv 2) (pps_cons pe_str pe_int (pps_cons pe_str pe_int pps_nil))) (by rfl) (by rfl) (fun z => by cases z) (by decide)) (pv 0) (fun _ _ => rfl)) pa_nil)))))), ?_⟩
    refine ⟨.str ⟨#[c]⟩, rfl, rfl, _, rfl, ite2 (fun k1 => ?_) fun k1 => ?_⟩
    · have z1 : c = 119 := by
        have z2 := V.str.inj (of_decide_eq_true k1)
        have z3 : (⟨#[c]⟩ : Str) = ⟨#[119]⟩ := z2
        simpa using z3
      unfold lpartD at q
      rw [if_pos z1] at q
      exact ⟨v, rfl, v, d, rfl, hd, dk, q⟩
    · have n1 : ¬ c = 119 := fun z => k1 (decide_eq_true (by rw [z]; rfl))
      unfold lpartD at q
      rw [if_neg n1] at q
      have xx : ∀ p (o o' : HO), H p = none → Ex [] H (upd (upd H p o) p o') := fun p o o' np => by rw [L2.upd_upd]; exact .new np
      refine ⟨v, rfl, fun p np => ⟨.int h, rfl, upd_same, endKV h, rfl, (by show 3 ≤ 15; decide), .str ⟨#[c]⟩, rfl, p, .int (endOf h c), rfl, ?_, v, d, endOf h c, rfl, dp_ex (xx p _ _ np) hd, q _ (xx p _ _ np)⟩⟩
      rw [← end_val h (by omega)]
      have em : mergeK [] (endKV h) = endKV h := rfl
      rw [em]
      exact DGet.k (k := Sum.inr ⟨#[c]⟩) upd_same
end
end K43

set_option maxHeartbeats 4000000
namespace K43
open PySem PySem.Spec PyProof.Rows L2 Kk RZ
abbrev s_isorder : Stmt := topS 28
abbrev s_due : Stmt := topS 29
abbrev n_isorder : List Str := ["_law_thing", "_law_hands", "_law_shape", "_law_sign", "_law_part_here"]
abbrev n_due : List Str := ["_law_thing", "_law_hands", "_law_one_here"]
theorem sc_isorder : FnScope n_isorder ["_law_thing", "_law_hands"] (defScope s_isorder) := ⟨rfl, rfl, rfl, by decide +kernel, rfl, by decide +kernel, by decide +kernel⟩
theorem sc_due : FnScope n_due ["_law_thing", "_law_hands"] (defScope s_due) := ⟨rfl, rfl, rfl, by decide +kernel, rfl, by decide +kernel, by decide +kernel⟩
def chk (k : Str) : Bool := match frm? k, valV shKV (.inr k) with
  | some ks, some (.str y) => decide (y ≠ Str.ofString "") && decide (y.cps.size = ks.length) && (y.cps.toList.zip ks).all (fun q => decide (q ∈ sgT))
  | _, _ => false
theorem chk_all : ∀ k ∈ shK, chk k = true := by decide +kernel
theorem form_keys : formT.map (·.1) = shK := by decide +kernel
theorem sh_link (k : Str) : (frm? k = none ∧ valV shKV (.inr k) = none) ∨ ∃ ks y, frm? k = some ks ∧ valV shKV (.inr k) = some (.str y) ∧ y ≠ Str.ofString "" ∧ y.cps.size = ks.length ∧ ∀ (i c : Nat) (kd : Str), y.cps[i]? = some c → ks[i]? = some kd → (c, kd) ∈ sgT := by
  by_cases m : k ∈ shK
  · have h := chk_all k m
    unfold chk at h
    split at h
    · rename_i ks y e1 e2
      rw [Bool.and_eq_true, Bool.and_eq_true] at h
      refine .inr ⟨ks, y, e1, e2, of_decide_eq_true h.1.1, of_decide_eq_true h.1.2, fun i c kd hc hk => ?_⟩
      have hz : (y.cps.toList.zip ks)[i]? = some (c, kd) := by
        rw [List.getElem?_zip_eq_some]
        exact ⟨by rw [Array.getElem?_toList]; exact hc, hk⟩
      exact of_decide_eq_true (List.all_eq_true.mp h.2 _ (List.mem_of_getElem? hz))
    · cases h
  · refine .inl ⟨?_, ?_⟩
    · unfold frm?
      have : formT.find? (fun p => p.1 == k) = none := by
        rw [List.find?_eq_none]
        intro p hp e
        exact m (by rw [← form_keys]; exact List.mem_map.mpr ⟨p, hp, eq_of_beq e⟩)
      rw [this]; rfl
    · unfold valV
      have : shKV.find? (fun kv => decide (kv.1 = Sum.inr k)) = none := by
        rw [List.find?_eq_none]
        intro p hp e
        have h1 : p.1 ∈ shK.map Sum.inr := by rw [← sh_keys]; exact List.mem_map.mpr ⟨p, hp, rfl⟩
        rw [of_decide_eq_true e] at h1
        obtain ⟨z, hz, ez⟩ := List.mem_map.mp h1
        cases ez
        exact m hz
      rw [this]; rfl
section
variable {P : Program} {w : World} {K : PySem.W.Frag} {mg : Str → Option Value} {base : Heap}
def spIsOrder (K : PySem.W.Frag) : Sp := fun vs H Q _ => ∃ (v : V) (d : PyData) (h : Int), vs = [v, .int h] ∧ Dp K H v d ∧ Dk d ∧ ∀ H', Ex [] H H' → Q (.bl (formD h d)) H'
theorem ok_isorder {f f1 f2 : Addr} {fd d1 d2 : FuncData} {k : Nat} (F : Fun K "_law_is_order" "_law_is_order" s_isorder f fd) (C__law_shapes : Cl P w K mg base k "_law_shapes" [] spShapes f1 d1)
    (C__law_is_part : Cl P w K mg base k "_law_is_part" ["_law_sign", "_law_thing", "_law_hands"] (spIsPart K) f2 d2) (m_isinstance : mg "isinstance" = none) (m_tuple : mg "tuple" = none) (m_str : mg "str" = none) (m_len : mg "len" = none) (m_zip : mg "zip" = none) :
    FnOk P w K mg base CX0 (k + 1) f fd ["_law_thing", "_law_hands"] (spIsOrder K) := by
  refine F.ok sc_isorder (fun vs H Q E h => ?_) (fun cdv A outer s H vs Q E hr h => ?_)
  · obtain ⟨v, d, h, rfl, _⟩ := h; rfl
  · obtain ⟨v, d, hh, rfl, hd, dk, q⟩ := h
    refine ⟨_, (pss_cons (ps_if (PW.pt (pw_or (pt_not (pt_val (pe_callB call_isi (by rfl) m_isinstance (by decide +kernel) (pa_cons (pv 0) (pa_cons (pe_bltn (v := .ty "tuple") (by rfl) m_tuple (by decide +kernel) rfl) pa_nil)))))
        (pw_or (pt_cmpR (op_eqNilT (K := K) rfl hr.units) (pv 0) (pe_tup pa_nil) (nomark _))
        (pw_or1 (pt_not (pt_val (pe_callB call_isi (by rfl) m_isinstance (by decide +kernel) (pa_cons (pe_ix ix_tup (pv 0) pe_int (fun _ _ => rfl)) (pa_cons (pe_bltn (v := .ty "str") (by rfl) m_str (by decide +kernel) rfl) pa_nil))))))))) (pss_one (ps_ret pe_bl)) pss_nil)
      (pss_cons (ps_set (i := 2) sc_isorder.nd rfl (.inl rfl) (pe_dget2 (hu_of hr) (pe_call0 C__law_shapes.g hr (by rfl) C__law_shapes.m C__law_shapes.k C__law_shapes.b .nil pass0) (pe_ix ix_tup (pv 0) pe_int (fun _ _ => rfl)) pe_str ⟨rfl, rfl, rfl, rfl⟩))
      (pss_cons (ps_if (PW.pt (pw_or (pt_cmpR op_eq (pv 2) pe_str (nomark _)) (pw_or1 (pt_cmpR op_ne (pe_callB call_len_seq (by rfl) m_len PySem.boot_len (pa_cons (pv 0) pa_nil)) (pe_op op_add pe_int (pe_callB call_len_str (by rfl) m_len PySem.boot_len (pa_cons (pv 2) pa_nil))) (nomark _))))) (pss_one (ps_ret pe_bl)) pss_nil)
      (pss_one (ps_ret (pe_cmpR (op_eq_nil hr) (pe_lc (own := [("_law_sign", 3), ("_law_part_here", 4)]) (g := gPair K 3 4) rfl sc_isorder.nd (pi_zipS (by rfl) m_zip (pa_cons (pv 2) (pa_cons (pe_slice sl_tupA (pv 0) (po_some pe_int) po_none) pa_nil)))
          (blkOk_by (N := n_isorder) (sc := defScope s_isorder) (by decide +kernel)) (fun _ _ _ _ _ => pg_tupK (K := K) rfl rfl (pgs_cons (pg_name (i := 3) sc_isorder.nd rfl (Or.inl rfl)) (pgs_cons (pg_name (i := 4) sc_isorder.nd rfl (Or.inl rfl)) pgs_nil)))
          (fun _ _ _ _ _ => pts_one (pt_not (pt_val (pe_call C__law_is_part.g hr (by rfl) C__law_is_part.m C__law_is_part.k C__law_is_part.b .nil pass0 (pa_cons (pv 3) (pa_cons (pv 4) (pa_cons (pv 1) pa_nil))))))) (fun _ _ _ _ _ => pe_int)) (pe_lst pa_nil) (nomark _))))))), ?_⟩
    have no : formD hh d = false → ∀ H', Ex [] H H' → Q (.bl false) H' := fun e H' x => by
      have q2 := q H' x
      rw [e] at q2; exact q2
    refine ⟨v, rfl, v, .ty "tuple", .type (tyN d), .type "tuple", tupD d, rfl, .ty "tuple", dp_ty hd, kit_ty (kit_tup d), _, rfl, ite2 (fun e => ?_) fun e => ?_⟩
    · refine iteT (no ?_ _ .refl)
      cases d <;> first | rfl | exact absurd e Bool.false_ne_true
    obtain ⟨ds, rfl⟩ : ∃ ds, d = .tuple ds := by cases d <;> first | exact ⟨_, rfl⟩ | exact absurd rfl e
    cases hd with
    | tup hs ha =>
      rename_i a xs
      cases dk with
      | tup hl hk =>
        have xl := dpAll_len ha
        refine ⟨.ref a, rfl, (by show 0 ≤ sizeLine; decide), fun Z nZ => ?_⟩
        have xZ : Ex [] H (upd H Z (.tup [])) := .new nZ
        refine ⟨a, Z, xs, rfl, rfl, xZ.seqT hs, .of upd_same, _, rfl, ite2 (fun e2 => ?_) fun e2 => ?_⟩
        · refine iteT (no ?_ _ xZ)
          cases ha with
          | nil => rfl
          | cons _ _ => cases e2
        cases ha with
        | nil => exact absurd rfl e2
        | cons ha1 ha2 =>
          rename_i x0 rest d0 dr
          have hs1 := xZ.seqT hs
          refine ⟨.ref a, rfl, a, _, 0, x0, rfl, rfl, hs1, at0, x0, .ty "str", .type (tyN d0), .type "str", strD d0, rfl, .ty "str", dp_ty (dp_ex xZ ha1), kit_ty (kit_str d0), _, rfl, ite2 (fun e3 => ?_) fun e3 => ?_⟩
          · refine no ?_ _ xZ
            cases d0 <;> first | rfl | exact absurd e3 Bool.false_ne_true
          obtain ⟨kd, rfl⟩ : ∃ kd, d0 = .str kd := by cases d0 <;> first | exact ⟨_, rfl⟩ | exact absurd rfl e3
          cases ha1
          refine ⟨rfl, fun p np => ?_⟩
          have xp : Ex [] (upd H Z (.tup [])) (upd (upd H Z (.tup [])) p (.dK shKV)) := .new np
          have x2 := xZ.trans xp
          have hs2 := xp.seqT hs1
          have hp : (upd (upd H Z (.tup [])) p (.dK shKV)) p = some (.dK shKV) := upd_same
          generalize upd (upd H Z (.tup [])) p (.dK shKV) = H2 at x2 hs2 hp
          have rl := dpAll_len ha2
          rcases sh_link kd with ⟨hf, hv⟩ | ⟨ks, y, hf, hv, hy0, hyl, hyk⟩
          · refine ⟨p, rfl, .inl ⟨shKV, .inl hp⟩, .ref a, rfl, a, _, 0, .str kd, rfl, rfl, hs2, at0, none, by rw [← hv]; exact DGet.k (k := Sum.inr kd) hp, ?_⟩
            refine ⟨.str (Str.ofString ""), rfl, rfl, _, rfl, ite2 (fun _ => iteT (no ?_ _ x2)) fun z => absurd (decide_eq_true rfl) z⟩
            show (match frm? kd with | some ks => _ | none => false) = false
            rw [hf]
          · have ef : formD hh (.tuple (.str kd :: dr)) = (decide (dr.length = ks.length) && (ks.zip dr).all fun q => partD hh q.1 q.2) := by
              show (match frm? kd with | some ks => _ | none => false) = _
              rw [hf]
            have kl := frm_len hf
            have yl : y.length ≤ sizeLine := Nat.le_trans (show y.cps.size ≤ 1000 by omega) (by decide)
            refine ⟨p, rfl, .inl ⟨shKV, .inl hp⟩, .ref a, rfl, a, _, 0, .str kd, rfl, rfl, hs2, at0, some (.str y), by rw [← hv]; exact DGet.k (k := Sum.inr kd) hp, ?_⟩
            refine ⟨.str y, rfl, rfl, _, rfl, ite2 (fun z => absurd (V.str.inj (of_decide_eq_true z)) hy0) fun _ => ?_⟩
            refine ⟨.ref a, rfl, a, _, rfl, .inr hs2, .str y, rfl, y, rfl, yl, 1, _, rfl, rfl, rfl, _, rfl, ite2 (fun e4 => ?_) fun e4 => ?_⟩
            · refine no ?_ _ x2
              rw [ef]
              have e5 : ¬ dr.length = ks.length := fun z => by
                have z2 : (V.int ((V.str kd :: rest).length : Nat)) = V.int (1 + (y.length : Int)) := by
                  congr 1
                  rw [List.length_cons, rl, z, ← hyl]
                  show (((y.cps.size + 1 : Nat)) : Int) = 1 + ((y.cps.size : Nat) : Int)
                  omega
                rw [z2] at e4
                simp at e4
              rw [decide_eq_false e5]; rfl
            · have e5 : dr.length = ks.length := by
                refine Decidable.byContradiction fun z => e4 ?_
                refine (Bool.not_eq_true' _).mpr (decide_eq_false fun z2 => z ?_)
                have z3 := V.int.inj z2
                rw [List.length_cons, rl] at z3
                have z4 : ((dr.length + 1 : Nat) : Int) = 1 + ((y.cps.size : Nat) : Int) := z3
                omega
              refine ⟨.str y, rfl, .ref a, rfl, 1, rfl, a, _, rfl, hs2, fun z => absurd z one_cut, fun _ B nB => ?_⟩
              rw [cut_one]
              have x3 : Ex [] H2 (upd H2 B (.tup rest)) := .new nB
              refine ⟨y, B, rest, rfl, .of upd_same, fun D nD => ?_⟩
              have nD0 : H D = none := x2.f _ (x3.f _ nD)
              refine lc_it (walk_zipS (x := y) (ys := rest) rfl) (fun i H4 => ∃ acc, H4 D = some (.lst acc) ∧ acc.length ≤ i ∧ i ≤ 3 ∧ acc.isEmpty = (((ks.zip dr).take i).all fun q => partD hh q.1 q.2) ∧ H4 B = some (.tup rest) ∧ Ex [] H H4) ?_ ?_ ?_ ?_
              · exact ⟨[], upd_same, Nat.le_refl _, by decide, rfl, (Ex.new nD (xs := [])).tup upd_same, (x2.trans x3).trans (.new nD)⟩
              · intro i H4 _ ⟨acc, _, _, _, _, hB, _⟩
                exact .of hB
              · intro i x H4 H5 hi ⟨acc, hD, hl4, hi3, he, hB, x4⟩ ⟨T9, c9, y9, e9, n9, f9, hc9, hy9⟩
                subst e9 f9
                have hy9 : rest[i]? = some y9 := hy9
                obtain ⟨d9, hd9, dp9⟩ := dpAll_get ha2 hy9
                have m9 : d9 ∈ dr := List.mem_of_getElem? hd9
                have li : i < ks.length := by rw [← e5]; exact (List.getElem?_eq_some_iff.mp hd9).1
                have hk9 : ks[i]? = some ks[i] := List.getElem?_eq_getElem li
                have lk9 := hyk i c9 ks[i] hc9 hk9
                have ez : (ks.zip dr)[i]? = some (ks[i], d9) := by rw [List.getElem?_zip_eq_some]; exact ⟨hk9, hd9⟩
                have tk : (ks.zip dr).take (i + 1) = (ks.zip dr).take i ++ [(ks[i], d9)] := by rw [List.take_add_one, ez]; rfl
                have x9 : Ex [] H4 (upd H4 T9 (.tup [.str ⟨#[c9]⟩, y9])) := .new n9
                have x5 := x4.trans x9
                refine ⟨T9, [.str ⟨#[c9]⟩, y9], rfl, .of upd_same, rfl, _, _, rfl, _, _, rfl, rfl, ?_⟩
                refine ⟨rfl, ?_⟩
                have mc : c9 = 104 ∨ c9 = 119 ∨ c9 = 115 ∨ c9 = 110 := by
                  have := lk9
                  simp only [sgT, List.mem_cons, List.not_mem_nil, or_false, Prod.mk.injEq] at this
                  rcases this with ⟨z, _⟩ | ⟨z, _⟩ | ⟨z, _⟩ | ⟨z, _⟩
                  · exact .inl z
                  · exact .inr (.inl z)
                  · exact .inr (.inr (.inl z))
                  · exact .inr (.inr (.inr z))
                refine ⟨.str ⟨#[c9]⟩, rfl, y9, rfl, .int hh, rfl, c9, y9, d9, hh, rfl, mc, dp_ex x5 dp9, hk d9 (List.mem_cons_of_mem _ m9), fun H6 x6 => ⟨_, rfl, ite2 (fun b => ?_) fun b => ?_⟩⟩
                · have b2 : partD hh ks[i] d9 = false := by
                    have b3 : (!lpartD hh c9 d9) = true := b
                    rw [lpart_part lk9, Bool.not_eq_true'] at b3; exact b3
                  have hD6 := x6.lst (x9.lst hD)
                  refine ⟨acc, hD6, Nat.lt_of_le_of_lt (show acc.length ≤ 10 by omega) (by decide), acc ++ [_], upd_same, by rw [List.length_append]; simp; omega, by omega, ?_, (Ex.put (xs := [D]) hD6 nt_lst (by simp)).tup (x6.tup (x9.tup hB)), Ex.own nD0 (x5.trans x6) (.put hD6 nt_lst (by simp))⟩
                  rw [tk, List.all_append, List.all_cons, b2, Bool.false_and, Bool.and_false]; simp
                · have b2 : partD hh ks[i] d9 = true := by
                    rw [← lpart_part lk9]
                    cases z : lpartD hh c9 d9 with
                    | true => rfl
                    | false => exact absurd (by rw [z]; rfl) b
                  refine ⟨acc, x6.lst (x9.lst hD), by omega, by omega, ?_, x6.tup (x9.tup hB), x5.trans x6⟩
                  rw [tk, List.all_append, List.all_cons, b2, he]; simp
              · intro H4 ⟨acc, hD, hl4, hi3, he, hB, x4⟩
                refine ⟨Nat.zero_le _, fun Z2 nZ2 => ?_⟩
                have x5 : Ex [] H4 (upd H4 Z2 (.lst [])) := .new nZ2
                refine ⟨D, Z2, acc, rfl, rfl, .of (x5.lst hD), .of upd_same, ?_⟩
                have q2 := q _ (x4.trans x5)
                have e6 : min y.cps.size rest.length = (ks.zip dr).length := by
                  rw [List.length_zip, rl, hyl]
                rw [ef, decide_eq_true e5, Bool.true_and] at q2
                rw [he, e6, List.take_length]
                exact q2
def spDue (K : PySem.W.Frag) : Sp := fun vs H Q _ => ∃ (v : V) (d : PyData) (h : Int), vs = [v, .int h] ∧ Dp K H v d ∧ Dk d ∧ ∀ H', Ex [] H H' → Q (.bl (codeD h d)) H'
theorem ok_due {f f1 : Addr} {fd d1 : FuncData} {k : Nat} (F : Fun K "_law_due" "_law_due" s_due f fd) (C__law_is_order : Cl P w K mg base k "_law_is_order" ["_law_thing", "_law_hands"] (spIsOrder K) f1 d1)
    (m_isinstance : mg "isinstance" = none) (m_tuple : mg "tuple" = none) : FnOk P w K mg base CX0 (k + 1) f fd ["_law_thing", "_law_hands"] (spDue K) := by
  refine F.ok sc_due (fun vs H Q E h => ?_) (fun cdv A outer s H vs Q E hr h => ?_)
  · obtain ⟨v, d, h, rfl, _⟩ := h; rfl
  · obtain ⟨v, d, hh, rfl, hd, dk, q⟩ := h
    refine ⟨_, (pss_one (ps_ret (pe_and (pe_callB call_isi (by rfl) m_isinstance (by decide +kernel) (pa_cons (pv 0) (pa_cons (pe_bltn (v := .ty "tuple") (by rfl) m_tuple (by decide +kernel) rfl) pa_nil))) (pe_one (pe_cmpR (op_eq_nil hr) (pe_lc (own := [("_law_one_here", 2)]) (g := gName 2) rfl sc_due.nd (pi_tup (pv 0)) (blkOk_by (N := n_due) (sc := defScope s_due) (by decide +kernel)) (fun _ _ _ _ _ => pg_name (i := 2) sc_due.nd rfl (Or.inl rfl)) (fun _ _ _ _ _ => pts_one (pt_not (pt_val (pe_call C__law_is_order.g hr (by rfl) C__law_is_order.m C__law_is_order.k C__law_is_order.b .nil pass0 (pa_cons (pv 2) (pa_cons (pv 1) pa_nil)))))) (fun _ _ _ _ _ => pe_int)) (pe_lst pa_nil) (nomark _)))))), ?_⟩
    refine ⟨v, rfl, v, .ty "tuple", .type (tyN d), .type "tuple", tupD d, rfl, .ty "tuple", dp_ty hd, kit_ty (kit_tup d), _, rfl, ite2 (fun e => ?_) fun e => ?_⟩
    · obtain ⟨ds, rfl⟩ : ∃ ds, d = .tuple ds := by cases d <;> first | exact ⟨_, rfl⟩ | exact absurd e Bool.false_ne_true
      cases hd with
      | tup hs ha =>
        rename_i a xs
        cases dk with
        | tup hl hk =>
          have xl := dpAll_len ha
          refine ⟨.ref a, rfl, a, rfl, ⟨xs, hs⟩, fun D nD => ?_⟩
          refine lc_tup (a := a) (xs := xs) (K := K) (fun i H4 => ∃ acc, H4 D = some (.lst acc) ∧ acc.length ≤ i ∧ acc.isEmpty = ((ds.take i).all (formD hh)) ∧ Ex [] H H4) ?_ ?_ ?_ ?_
          · exact ⟨[], upd_same, Nat.le_refl _, rfl, .new nD⟩
          · intro i H4 _ ⟨acc, _, _, _, x4⟩
            exact x4.seqT hs
          · intro i x H4 hx ⟨acc, hD, hl4, he, x4⟩
            obtain ⟨d9, hd9, dp9⟩ := dpAll_get ha hx
            have m9 : d9 ∈ ds := List.mem_of_getElem? hd9
            have li : i < ds.length := (List.getElem?_eq_some_iff.mp hd9).1
            have tk : ds.take (i + 1) = ds.take i ++ [d9] := by rw [List.take_add_one, hd9]; rfl
            refine ⟨rfl, ?_⟩
            refine ⟨x, rfl, .int hh, rfl, x, d9, hh, rfl, dp_ex x4 dp9, hk d9 m9, fun H6 x6 => ⟨_, rfl, ite2 (fun b => ?_) fun b => ?_⟩⟩
            · have b2 : formD hh d9 = false := by
                have b3 : (!formD hh d9) = true := b
                rw [Bool.not_eq_true'] at b3; exact b3
              have hD6 := x6.lst hD
              refine ⟨acc, hD6, Nat.lt_of_le_of_lt (show acc.length ≤ 100 by omega) (by decide), acc ++ [_], upd_same, by rw [List.length_append]; simp; omega, ?_, Ex.own nD (x4.trans x6) (.put hD6 nt_lst (by simp))⟩
              rw [tk, List.all_append, List.all_cons, b2, Bool.false_and, Bool.and_false]; simp
            · have b2 : formD hh d9 = true := by
                cases z : formD hh d9 with
                | true => rfl
                | false => exact absurd (by rw [z]; rfl) b
              refine ⟨acc, x6.lst hD, by omega, ?_, x4.trans x6⟩
              rw [tk, List.all_append, List.all_cons, b2, he]; simp
          · intro H4 ⟨acc, hD, hl4, he, x4⟩
            refine ⟨Nat.zero_le _, fun Z2 nZ2 => ?_⟩
            have x5 : Ex [] H4 (upd H4 Z2 (.lst [])) := .new nZ2
            refine ⟨D, Z2, acc, rfl, rfl, .of (x5.lst hD), .of upd_same, ?_⟩
            have q2 := q _ (x4.trans x5)
            rw [he, xl, List.take_length]
            exact q2
    · have e3 : codeD hh d = false := by cases d <;> first | rfl | exact absurd rfl e
      have q2 := q H .refl
      rw [e3] at q2; exact q2
end
end K43

set_option maxHeartbeats 4000000
namespace K43
open PySem PySem.Spec PyProof.Rows L2 Kk RZ
abbrev s_law : Stmt := topS 30
abbrev n_law : List Str := ["_law_script", "_law_k", "_law_state", "_law_turn", "_law_hands", "_law_code", "_law_some", "_law_thing", "_law_due_here", "_law_j"]
theorem sc_law : FnScope n_law ["_law_script"] (defScope s_law) := ⟨rfl, rfl, rfl, by decide +kernel, rfl, by decide +kernel, by decide +kernel⟩
def seven (c l : Addr) (v : V) : List V := [.ref c, v, .ref l, .non, .int 5, .str (Str.ofString ""), .bl true]
theorem seven_ok {K : PySem.W.Frag} {H : Hp} {S : List Addr} {c l : Addr} {v : V} {acc : List V} {ds : List PyData} {dd : PyData} (hc : SqT K H c acc) (ht : TpAll K H acc ds) (h9 : ds.length ≤ 9) (ho : ∀ x ∈ ds, OrdD x) (hl : H l = some (.lst acc)) (nl : l ∉ S) (hv : Da K S H v dd) (kv : Dk dd) :
    ∀ x ∈ seven c l v, ∃ dd, Da K S H x dd ∧ Dk dd := by
  intro x hx
  unfold seven at hx
  simp only [List.mem_cons, List.not_mem_nil, or_false] at hx
  rcases hx with rfl | rfl | rfl | rfl | rfl | rfl | rfl
  · exact ⟨_, .tup hc ht.da, .tup (by omega) fun x m => (ho x m).dk⟩
  · exact ⟨dd, hv, kv⟩
  · exact ⟨_, .lst nl (.of hl) ht.da, .lst⟩
  · exact ⟨_, .non, .non⟩
  · exact ⟨_, .int _, .int _⟩
  · exact ⟨_, .str _, .str (by decide +kernel)⟩
  · exact ⟨_, .bl _, .bl _⟩
/-- the one put otherwise, or not -/
def tMay (K : PySem.W.Frag) : TS := fun D σ H => ∃ (sc p c L l : Addr) (k t h : Int) (y7 y8 : Option V) (acc : List V) (ds : List PyData), σ = [some (.ref sc), some (.int k), some (.ref p), some (.int t), some (.int h), some (.ref c), some (.ref L), y7, y8, none] ∧
  St2 H p ∧ SqT K H c acc ∧ TpAll K H acc ds ∧ ds.length ≤ 9 ∧ (∀ x ∈ ds, OrdD x) ∧ H l = some (.lst acc) ∧ l ≠ p ∧ l ≠ L ∧ L ≠ p ∧ H L = some (.lst (seven c l (.ref c))) ∧
  ∀ (H' : Hp) (xs : List V), H' L = some (.lst xs) → (∀ x ∈ xs, ∃ dd, Da K [p, L] H' x dd ∧ Dk dd) → Ex [p, L] H H' → St2 H' p → D.nx [some (.ref sc), some (.int k), some (.ref p), some (.int t), some (.int h), some (.ref c), some (.ref L), y7, y8, none] H'
section
variable {P : Program} {w : World} {K : PySem.W.Frag} {mg : Str → Option Value} {base : Heap}
def spLaw (K : PySem.W.Frag) (T T3 T4 : Addr) : Sp := fun vs H Q _ => ∃ (s : Addr) (ns : List Int), vs = [.ref s] ∧ SqL K H s (ns.map V.int) ∧ ns.length ≤ 63 ∧ GxR.TabG H T ∧ GxR.TabG H T3 ∧ GxR.TabG H T4 ∧ ∀ H', Q (.bl true) H'
theorem ok_law {f f1 f2 f3 f4 f5 f6 f7 f8 T T3 T4 : Addr} {fd d1 d2 d3 d4 d5 d6 d7 d8 : FuncData} {k : Nat} (F : Fun K "law" "law" s_law f fd)
    (C__law_begin : Cl P w K mg base k "_law_begin" ["_law_cell"] spBegin f1 d1) (C__law_cell_at : Cl P w K mg base k "_law_cell_at" ["_law_script", "_law_k"] (spCell K) f2 d2)
    (C__law_draw : Cl P w K mg base k "_law_draw" ["_law_state", "_law_many"] spDraw f3 d3) (C__law_order : Cl P w K mg base k "_law_order" ["_law_state", "_law_hands"] (spLOrder K) f4 d4)
    (C__law_bent : Cl P w K mg base k "_law_bent" ["_law_state", "_law_code", "_law_hands"] (spBent K) f5 d5) (C__law_due : Cl P w K mg base k "_law_due" ["_law_thing", "_law_hands"] (spDue K) f6 d6)
    (C__law_is : Cl P w K mg base k "_law_is" ["_law_found", "_law_due_here"] spIs f7 d7) (C_is_code : Cl P w K mg base k "is_code" ["hands", "thing"] (spCode K T T3 T4) f8 d8)
    (m_len : mg "len" = none) (m_range : mg "range" = none) (m_max : mg "max" = none) (m_min : mg "min" = none) (m_tuple : mg "tuple" = none) (m_list : mg "list" = none) : FnOk P w K mg base CX0 (k + 1) f fd ["_law_script"] (spLaw K T T3 T4) := by
  refine F.ok sc_law (fun vs H Q E h => ?_) (fun cdv A outer s H vs Q E hr h => ?_)
  · obtain ⟨s, ns, rfl, _⟩ := h; rfl
  · obtain ⟨sc, ns, rfl, hS, hns, hT, hT3, hT4, q⟩ := h
    refine ⟨_, (pss_cons (ps_for PassesOwn.never rfl (pi_range1 (by rfl) m_range (pa_cons (pe_callB (call_max2 rfl) (by rfl) m_max (by decide +kernel) (pa_cons pe_int (pa_cons (pe_callB (call_min2 rfl) (by rfl) m_min (by decide +kernel) (pa_cons pe_int (pa_cons (pe_callB call_len_seq (by rfl) m_len PySem.boot_len (pa_cons (pv 0) pa_nil)) pa_nil))) pa_nil))) pa_nil)) (pg_name (i := 1) sc_law.nd rfl (.inl rfl)) (pss_cons (ps_set (i := 2) sc_law.nd rfl (.inr rfl) (pe_call C__law_begin.g hr (by rfl) C__law_begin.m C__law_begin.k C__law_begin.b .nil pass0 (pa_cons (pe_call C__law_cell_at.g hr (by rfl) C__law_cell_at.m C__law_cell_at.k C__law_cell_at.b .nil pass0 (pa_cons (pv 0) (pa_cons (pv 1) pa_nil))) pa_nil)))
      (pss_one (ps_for PassesOwn.never rfl (pi_range1 (by rfl) m_range (pa_cons pe_int pa_nil)) (pg_name (i := 3) sc_law.nd rfl (.inl rfl)) (pss_cons (ps_set (i := 4) sc_law.nd rfl (.inr rfl) (pe_op op_add pe_int (pe_call C__law_draw.g hr (by rfl) C__law_draw.m C__law_draw.k C__law_draw.b .nil pass0 (pa_cons (pv 2) (pa_cons pe_int pa_nil)))))
      (pss_cons (ps_set (i := 5) sc_law.nd rfl (.inl rfl) (pe_callTy call_tuple_of (by rfl) m_tuple (by decide +kernel) (pa_cons (pe_lc (own := [("_law_j", 9)]) (g := gName 9) (tt := tYes) rfl sc_law.nd (pi_range1 (by rfl) m_range (pa_cons (pe_call C__law_draw.g hr (by rfl) C__law_draw.m C__law_draw.k C__law_draw.b .nil pass0 (pa_cons (pv 2) (pa_cons pe_int pa_nil))) pa_nil)) (blkOk_by (N := n_law) (sc := defScope s_law) (by decide +kernel)) (fun _ _ _ _ _ => pg_name (i := 9) sc_law.nd rfl (Or.inl rfl)) (fun _ _ _ _ _ => pts_nil) (fun _ _ _ _ _ => (pe_call C__law_order.g hr (by rfl) C__law_order.m C__law_order.k C__law_order.b .nil pass0 (pa_cons (pv 2) (pa_cons (pv 4) pa_nil))))) pa_nil)))
      (pss_cons (ps_set (i := 6) sc_law.nd rfl (.inl rfl) (pe_lst (pa_cons (pv 5) (pa_cons (pv 5) (pa_cons (pe_callTy call_list_of (by rfl) m_list (by decide +kernel) (pa_cons (pv 5) pa_nil)) (pa_cons pe_non (pa_cons pe_int (pa_cons pe_str (pa_cons pe_bl pa_nil)))))))))
      (pss_cons (PS.by (t' := tMay K) (ps_if (pt_cmpR op_gt (pe_op op_mod (pv 3) pe_int) pe_int (nomark _)) (pss_one (ps_asg (pe_call C__law_bent.g hr (by rfl) C__law_bent.m C__law_bent.k C__law_bent.b .nil pass0 (pa_cons (pv 2) (pa_cons (pv 5) (pa_cons (pv 4) pa_nil)))) (pg_sub (pv 6) pe_int set_list))) pss_nil) (by
          rintro D σ H ⟨sc, p, c, L, l, k, t, h, y7, y8, acc, ds, rfl, hs, hc, ht, h9, ho, hl, lp, lL, Lp, hL, q⟩
          have nS : l ∉ [p, L] := by simp [lp, lL]
          refine ⟨.int t, rfl, t, 3, rfl, rfl, (by show (0 : Int) < 3; decide), _, 0, rfl, rfl, _, rfl, ite2 (fun e => ?_) fun e => ?_⟩
          · refine ⟨.ref p, rfl, .ref c, rfl, .int h, rfl, p, c, h, [p, L], acc, ds, rfl, hs, by simp, fun b hb => ?_, hc, ht, h9, ho, fun H1 v1 dd da1 dk1 x1 s1 => ?_⟩
            · simp only [List.mem_cons, List.not_mem_nil, or_false] at hb
              rcases hb with rfl | rfl
              · obtain ⟨zs, e⟩ := hs.some; rw [e]; simp
              · rw [hL]; simp
            · have hL1 := x1.lst hL (by simpa using Lp)
              have x2 : Ex [L] H1 (upd H1 L (.lst (seven c l v1))) := .put hL1 nt_lst (by simp)
              refine ⟨.ref L, rfl, L, _, 1, 1, rfl, rfl, hL1, rfl, ?_⟩
              have x12 : Ex [p, L] H (upd H1 L (.lst (seven c l v1))) := (x1.mono (by simp)).trans (x2.mono (by simp))
              refine q _ (seven c l v1) upd_same ?_ x12 (s1.ex x2 (by simpa using Lp.symm))
              exact seven_ok (x12.seqT hc) (ht.ex x12) h9 ho (x2.lst (x1.lst hl (by simpa using lp)) (by simpa using lL)) nS (da1.ex x2 (by simp)) dk1
          · exact q H _ hL (seven_ok hc ht h9 ho hl nS (.tup hc ht.da) (.tup (by omega) fun x m => (ho x m).dk)) .refl hs))
      (pss_one (ps_for PassesOwn.never rfl (pi_list (pv 6)) (pg_name (i := 7) sc_law.nd rfl (.inl rfl)) (pss_cons (ps_set (i := 8) sc_law.nd rfl (.inl rfl) (pe_call C__law_due.g hr (by rfl) C__law_due.m C__law_due.k C__law_due.b .nil pass0 (pa_cons (pv 7) (pa_cons (pv 4) pa_nil))))
      (pss_one (ps_if (PW.pt (pw_or (pt_not (pt_val (pe_call C__law_is.g hr (by rfl) C__law_is.m C__law_is.k C__law_is.b .nil pass0 (pa_cons (pe_call C_is_code.g hr (by rfl) C_is_code.m C_is_code.k C_is_code.b .nil pass0 (pa_cons (pv 4) (pa_cons (pv 7) pa_nil))) (pa_cons (pv 8) pa_nil))))) (pw_or1 (pt_not (pt_val (pe_call C__law_is.g hr (by rfl) C__law_is.m C__law_is.k C__law_is.b .nil pass0 (pa_cons (pe_call C_is_code.g hr (by rfl) C_is_code.m C_is_code.k C_is_code.b .nil pass0 (pa_cons (pv 4) (pa_cons (pv 7) pa_nil))) (pa_cons (pv 8) pa_nil)))))))) (pss_one (ps_ret pe_bl)) pss_nil)))))))))))))
      (pss_one (ps_ret pe_bl))), ?_⟩
    generalize hmx : (if (if ((ns.map V.int).length : Int) < 4 then ((ns.map V.int).length : Int) else 4) > 1 then (if ((ns.map V.int).length : Int) < 4 then ((ns.map V.int).length : Int) else 4) else 1) = mx0
    have hm : 0 ≤ mx0 ∧ mx0 < 2 ^ 62 := by
      rw [← hmx]
      split
      · split <;> omega
      · omega
    refine ⟨.ref sc, rfl, sc, _, rfl, .inl hS, 4, _, rfl, 1, _, rfl, mx0, by rw [← hmx], by omega, hm.2, for_range (lo := 0) (n := mx0.toNat) (fun i σ H2 => Ex [] H H2 ∧ ∃ y1 y2 y3 y4 y5 y6 y7 y8, σ = [some (.ref sc), y1, y2, y3, y4, y5, y6, y7, y8, none]) ⟨.refl, _, _, _, _, _, _, _, _, rfl⟩ ?_ ?_⟩
    · rintro i σ H2 hi ⟨x2, y1, y2, y3, y4, y5, y6, y7, y8, rfl⟩
      refine ⟨.ref sc, rfl, .int (0 + (i : Int)), rfl, sc, ns, i, by simp, x2.seqL hS, fun n => ⟨n, rfl, fun p H3 np x3 s3 => ?_⟩⟩
      refine ⟨6, rfl, by decide, by decide, for_range (lo := 0) (n := 6) (fun j σ H4 => Ex [] H2 H4 ∧ St2 H4 p ∧ ∃ y3 y4 y5 y6 y7 y8, σ = [some (.ref sc), some (.int (0 + (i : Int))), some (.ref p), y3, y4, y5, y6, y7, y8, none]) ⟨x3, s3, _, _, _, _, _, _, rfl⟩ ?_ ?_⟩
      · rintro j σ H4 hj ⟨x4, s4, y3, y4, y5, y6, y7, y8, rfl⟩
        refine ⟨.ref p, rfl, p, 6, rfl, s4, by decide, by decide, fun H5 v5 a5 b5 x5 s5 => ⟨3, v5, rfl, rfl, ?_⟩⟩
        refine ⟨.ref p, rfl, p, 9, rfl, s5, by decide, by decide, fun H6 v6 a6 b6 x6 s6 => ⟨v6, rfl, by omega, by omega, fun D nD => ?_⟩⟩
        have dD := s6.ne nD
        have x46 : Ex [p] H4 H6 := x5.trans x6
        refine lc_range (lo := 0) (n := v6.toNat) (fun i H7 => ∃ acc ds, H7 D = some (.lst acc) ∧ TpAll K H7 acc ds ∧ (∀ x ∈ ds, OrdD x) ∧ acc.length = i ∧ Ex [p] H4 H7 ∧ St2 H7 p) ?_ ?_ ?_
        · exact ⟨[], [], upd_same, .nil, by simp, rfl, x46.trans (.new nD), s6.ex (.new nD (xs := [])) (by simp)⟩
        · intro i7 H7 hi7 ⟨acc, ds, hD, ht, ho, hl, x7, s7⟩
          refine ⟨rfl, ?_⟩
          refine ⟨.ref p, rfl, .int (3 + v5), rfl, p, 3 + v5, rfl, s7, by omega, by omega, fun H8 v8 d8 t8 o8 x8 s8 => ?_⟩
          have hD8 := x8.lst hD (by simpa using dD)
          have x9 : Ex [D] H8 (upd H8 D (.lst (acc ++ [v8]))) := .put hD8 nt_lst (by simp)
          refine ⟨acc, hD8, Nat.lt_of_le_of_lt (show acc.length ≤ 10 by omega) (by decide), acc ++ [v8], ds ++ [d8], upd_same, ((ht.ex x8).app (.cons t8 .nil)).ex x9, fun x hx => ?_, by rw [List.length_append, hl]; rfl, Ex.own (x46.f D nD) (x7.trans x8) (x9.mono (by simp)), s8.ex x9 (by simpa using dD.symm)⟩
          rcases List.mem_append.mp hx with m | m
          · exact ho x m
          · rw [List.mem_singleton.mp m]; exact o8
        · intro H7 ⟨acc, ds, hD, ht, ho, hl, x7, s7⟩
          have hl2 := ht.len
          refine ⟨D, acc, rfl, .inl ⟨.of hD, fun c nc => ?_⟩⟩
          have x8 : Ex [] H7 (upd H7 c (.tup acc)) := .new nc
          refine ⟨.ref c, rfl, .ref c, rfl, .ref c, rfl, c, acc, rfl, .inr (.of upd_same), fun l nl => ?_⟩
          have x9 : Ex [] (upd H7 c (.tup acc)) (upd (upd H7 c (.tup acc)) l (.lst acc)) := .new nl
          refine ⟨(by show 7 ≤ sizeLine; decide), fun L nL => ?_⟩
          have x10 : Ex [] (upd (upd H7 c (.tup acc)) l (.lst acc)) (upd (upd (upd H7 c (.tup acc)) l (.lst acc)) L (.lst (seven c l (.ref c)))) := .new nL
          have x80 := (x8.trans x9).trans x10
          have s8 := s7.ex x8 (by simp)
          have s9 := s8.ex x9 (by simp)
          have lL : l ≠ L := ne_of_none upd_same nL
          refine ⟨sc, p, c, L, l, 0 + (i : Int), 0 + (j : Int), 3 + v5, y7, y8, acc, ds, rfl, s9.ex x10 (by simp), .of ((x9.trans x10).tup upd_same), ht.ex x80, by omega, ho, x10.lst upd_same, s8.ne nl, lL, s9.ne nL, upd_same, fun H11 xs hL11 dat x11 s11 => ?_⟩
          have x411 : Ex [p] H4 H11 := by
            have y1 : Ex [p] H4 (upd (upd (upd H7 c (.tup acc)) l (.lst acc)) L (.lst (seven c l (.ref c)))) := x7.trans (x80.mono (by simp))
            have nL4 : H4 L = none := x7.f _ (x8.f _ (x9.f _ nL))
            exact Ex.own nL4 y1 (x11.mono (by simp))
          have x211 : Ex [] H2 H11 := Ex.own np .refl ((x4.mono (by simp)).trans x411)
          have t1 := (x2.trans x211).t _ hT
          have t3 := (x2.trans x211).t _ hT3
          have t4 := (x2.trans x211).t _ hT4
          refine ⟨.ref L, rfl, L, rfl, ⟨xs, .of hL11⟩, for_list (a := L) (xs := xs) (fun jj σ H12 => Ex [] H11 H12 ∧ ∃ y7 y8, σ = [some (.ref sc), some (.int (0 + (i : Int))), some (.ref p), some (.int (0 + (j : Int))), some (.int (3 + v5)), some (.ref c), some (.ref L), y7, y8, none]) ⟨.refl, _, _, rfl⟩ (fun jj σ H12 _ h => .of (h.1.lst hL11)) ?_ ?_⟩
          · rintro jj x σ H12 hx ⟨x12, y7', y8', rfl⟩
            obtain ⟨dd, da, dk⟩ := dat x (List.mem_of_getElem? hx)
            have dp := dp_ex x12 da.dp
            refine ⟨x, rfl, .int (3 + v5), rfl, x, dd, 3 + v5, rfl, dp, dk, fun H13 x13 => ?_⟩
            refine ⟨.int (3 + v5), rfl, x, rfl, 3 + v5, x, dd, rfl, dp_ex x13 dp, dk, (x12.trans x13).t _ t1, (x12.trans x13).t _ t3, (x12.trans x13).t _ t4, fun H14 x14 => ?_⟩
            refine ⟨.bl (codeD (3 + v5) dd), rfl, _, _, rfl, ?_⟩
            rw [decide_eq_true rfl]
            refine ⟨true, rfl, iteF ?_⟩
            refine ⟨.int (3 + v5), rfl, x, rfl, 3 + v5, x, dd, rfl, dp_ex x14 (dp_ex x13 dp), dk, ((x12.trans x13).trans x14).t _ t1, ((x12.trans x13).trans x14).t _ t3, ((x12.trans x13).trans x14).t _ t4, fun H15 x15 => ?_⟩
            refine ⟨.bl (codeD (3 + v5) dd), rfl, _, _, rfl, ?_⟩
            rw [decide_eq_true rfl]
            exact ⟨true, rfl, iteF ⟨((x12.trans x13).trans x14).trans x15, _, _, rfl⟩⟩
          · rintro σ H12 ⟨x12, y7', y8', rfl⟩
            exact ⟨x211.trans x12, s11.ex x12 (by simp), _, _, _, _, _, _, rfl⟩
      · rintro σ H4 ⟨x4, s4, y3, y4, y5, y6, y7, y8, rfl⟩
        exact ⟨x2.trans x4, _, _, _, _, _, _, _, _, rfl⟩
    · rintro σ H2 ⟨x2, y1, y2, y3, y4, y5, y6, y7, y8, rfl⟩
      exact q H2
end
end K43

set_option maxHeartbeats 4000000
namespace Kk
open PySem PySem.Spec PyProof.Rows L2
/-- the end of a law; what the top has told is handed on -/
theorem walkT {l : PySem.W.OpenLaw} {m lev : Nat} {q : Program} {loose : List Str} {XP : (Str → Option Value) → Heap → Prop} {YP : World → Heap → Prop} {dr : DefRec} {K : Params → PySem.W.Frag} {x : Str}
    (most : l.most = some m) (small : m ≤ sizeLine) (nodef : dr.params.defaults = []) (room : Room lev callerA) (written : ∀ (w : World) (h : Heap), YP w h → (K w.params).In h)
    (F : ∀ (w : World) (mg mb : Str → Option Value) (mean : ExcName → Option Value) (fa : Addr) (h : Heap), (K w.params).In h → PyProof.Rows.Top q (PySem.W.looseW q loose) mean mg mb h → mg dr.name = some (.ref fa) →
      LamX.LawAtS l w (K w.params) CX0 lev m x mg fa h) :
    PySem.W.WalkO q loose XP YP l.row.toRowW dr [] (fun f vs => PySem.call f vs) := by
  refine Att.attach_callB most nodef fun w s0 s1 mg mb fa o pm cd doc a vs ns gr Y ho hd hcd hmg hobj hin hlen hbits hgens => ?_
  have inK := written w _ Y
  obtain ⟨fd, tabs, sp, tAt, tOut, tHd, bind, prom, ok⟩ := F w mg mb _ fa _ inK gr.T hmg
  refine LamX.law_callTs inK gr.T.g gr.T.b gr.T.builtins gr.T.nolimit hgens tAt tOut tHd gr.T.bmain hobj hin (Nat.le_trans hlen small) room ok bind ?_ ?_
  · exact fun H hH hS => prom H a ns hlen hbits hH hS
  · exact fun H e s' z => z
/-- the def's own code table, by where it stands -/
theorem tab_mk {K : PySem.W.Frag} {x : Str} {f c T : Addr} {oc : Value} {od : Option Addr} {fn : FuncData} {sl slc : Array (Option Value)} {occ : Value} {odc : Option Addr} {cvs : Array Value} (a : PySem.W.nsIn K mainGlobals x = some (some (.ref f))) (l : K.lookup f = some ⟨oc, od, .func fn, sl⟩) (hc : fn.code = .ref c)
    (lc : K.lookup c = some ⟨occ, odc, .fields cvs, slc⟩) (v11 : cvs[11]? = some (.ref T)) : PySem.W.tabIn K x = some (c, T) := by
  unfold PySem.W.tabIn
  rw [a]
  simp only [l, hc]
  show (match K.lookup c with | some ⟨_, _, .fields vs, _⟩ => (match (vs[11]? : Option Value) with | some (.ref P) => some (c, P) | _ => none) | _ => none) = some (c, T)
  rw [lc]
  simp only [v11]
end Kk
namespace K43
open PySem PySem.Spec PyProof.Rows L2 Kk
/-- where a def stands -/
structure AtN (K : PySem.W.Frag) (x : Str) (st : Stmt) (f : Addr) (fd : FuncData) : Prop where
  a : PySem.W.nsIn K mainGlobals x = some (some (.ref f))
  F : Fun K x x st f fd
theorem at_mk {K : PySem.W.Frag} {x : Str} {st : Stmt} {f : Addr} {oc : Value} {od an : Option Addr} {sl : Array (Option Value)} {kV doc pm cd ct : Value} (a : PySem.W.nsIn K mainGlobals x = some (some (.ref f)))
    (l : K.lookup f = some ⟨oc, od, .func (PySem.W.fnOf x x (defArgs st) (defBody st) (defScope st) .none kV doc pm an cd ct), sl⟩) (c : PySem.W.codeIn K cd x = true) (k : PySem.W.keepIn K (.ref f) = true) :
    AtN K x st f (PySem.W.fnOf x x (defArgs st) (defBody st) (defScope st) .none kV doc pm an cd ct) := ⟨a, fun_mk l c k⟩
/-- an order's kinds, where they stand -/
def FmA (K : PySem.W.Frag) (fA : Addr) (k : Str) (ks : List Str) : Prop := ∃ t, PySem.W.nsIn K fA k = some (some (.ref t)) ∧ ∃ d its n sl, K.lookup t = some ⟨.type "tuple", d, .seq its n, sl⟩ ∧ its.size ≤ sizeLine ∧ Vals (ks.map V.str) its.toList
theorem fmA_mk {K : PySem.W.Frag} {fA t : Addr} {k : Str} {ks : List Str} {d : Option Addr} {its : Array Value} {n : Nat} {sl : Array (Option Value)} (a : PySem.W.nsIn K fA k = some (some (.ref t))) (l : K.lookup t = some ⟨.type "tuple", d, .seq its n, sl⟩) (z : its.size ≤ sizeLine) (v : Vals (ks.map V.str) its.toList) : FmA K fA k ks := ⟨t, a, d, its, n, sl, l, z, v⟩
def keyB (e : DictEntry) : Bool := match e.key with
  | .str s _ => decide (s ∈ shK)
  | _ => false
theorem no_mk {K : PySem.W.Frag} {fA : Addr} {es : Array DictEntry} {nE : Nat} (lF : K.lookup fA = some ⟨.type "dict", none, .dict es nE, #[]⟩) (ky : es.toList.all keyB = true) (z : Str) (hz : frm? z = none) : PySem.W.nsIn K fA z = some none := by
  have nz : z ∉ shK := fun m => by
    rcases sh_link z with ⟨_, hv⟩ | ⟨ks, y, hf, _⟩
    · have := chk_all z m
      unfold chk at this
      rw [hz] at this; cases this
    · rw [hz] at hf; cases hf
  have hk : ∀ e ∈ es.toList, e.key.isStr z = false ∧ e.refKey = false := fun e he => by
    have := List.all_eq_true.mp ky e he
    unfold keyB at this
    split at this
    · rename_i s t ek
      have ms := of_decide_eq_true this
      refine ⟨?_, ?_⟩
      · rw [ek]
        show (s == z) = false
        cases q : (s == z) with
        | false => rfl
        | true => rw [eq_of_beq q] at ms; exact absurd ms nz
      · unfold DictEntry.refKey
        rw [ek]
    · cases this
  unfold PySem.W.nsIn
  rw [lF]
  show (match es.toList.find? (·.key.isStr z) with | some e => some (some e.val) | none => if es.toList.any (·.refKey) then none else some none) = some none
  have e1 : es.toList.find? (·.key.isStr z) = none := by
    rw [List.find?_eq_none]
    intro e he q
    rw [(hk e he).1] at q; cases q
  have e2 : es.toList.any (·.refKey) = false := by
    rw [List.any_eq_false]
    intro e he q
    rw [(hk e he).2] at q; cases q
  rw [e1, e2]; rfl
theorem all_mk {l : PySem.W.OpenLaw} {w : World} {K : PySem.W.Frag} {q : Program} {loose : List Str} {mean : ExcName → Option Value} {h : Heap} {mg mb : Str → Option Value} {fa fL fA tA : Addr} {f0 f1 f2 f3 f4 f5 f6 f7 f8 f9 f10 f11 f12 f13 f14 f15 f16 : Addr} {p0 c0 T0 p1 c1 T1 p2 c2 T2 : Addr}
    {fd0 fd1 fd2 fd3 fd4 fd5 fd6 fd7 fd8 fd9 fd10 fd11 fd12 fd13 fd14 fd15 fd16 : FuncData} {ocL kVL docL pmL cdL ctL : Value} {odL anL dT : Option Addr} {slL slT : Array (Option Value)} {its : Array Value} {nT nE : Nat} {es : Array DictEntry} {tk1 tk2 tk3 tk4 : Tok}
    {dn0 dn1 dn2 : DefRec} {oc0 kV0 doc0 pm0 ct0 occ0 oc1 kV1 doc1 pm1 ct1 occ1 oc2 kV2 doc2 pm2 ct2 occ2 : Value} {od0 an0 odc0 od1 an1 odc1 od2 an2 odc2 : Option Addr} {sl0 slc0 sl1 slc1 sl2 slc2 : Array (Option Value)} {cvs0 cvs1 cvs2 : Array Value}
    (X : K.In h) (top : PyProof.Rows.Top q loose mean mg mb h) (hfa : mg "law" = some (.ref fa))
    (ga0 : PySem.W.nsIn K mainGlobals "is_name" = some (some (.ref p0))) (gl0 : K.lookup p0 = some ⟨oc0, od0, .func (PySem.W.fnOf "is_name" "is_name" (defArgs sName) (defBody sName) (defScope sName) .none kV0 doc0 pm0 an0 (.ref c0) ct0), sl0⟩) (gc0 : PySem.W.codeIn K (.ref c0) "is_name" = true) (gk0 : PySem.W.keepIn K (.ref p0) = true)
    (rn0 : (recsOf q).find? (fun e => e.name == ("is_name" : Str)) = some dn0) (lc0 : K.lookup c0 = some ⟨occ0, odc0, .fields cvs0, slc0⟩) (v11_0 : cvs0[11]? = some (.ref T0)) (tbn0 : K.lookup T0 = none)
    (ga1 : PySem.W.nsIn K mainGlobals "is_order" = some (some (.ref p1))) (gl1 : K.lookup p1 = some ⟨oc1, od1, .func (PySem.W.fnOf "is_order" "is_order" (defArgs s_form) (defBody s_form) (defScope s_form) .none kV1 doc1 pm1 an1 (.ref c1) ct1), sl1⟩) (gc1 : PySem.W.codeIn K (.ref c1) "is_order" = true) (gk1 : PySem.W.keepIn K (.ref p1) = true)
    (rn1 : (recsOf q).find? (fun e => e.name == ("is_order" : Str)) = some dn1) (lc1 : K.lookup c1 = some ⟨occ1, odc1, .fields cvs1, slc1⟩) (v11_1 : cvs1[11]? = some (.ref T1)) (tbn1 : K.lookup T1 = none)
    (ga2 : PySem.W.nsIn K mainGlobals "is_code" = some (some (.ref p2))) (gl2 : K.lookup p2 = some ⟨oc2, od2, .func (PySem.W.fnOf "is_code" "is_code" (defArgs s_code) (defBody s_code) (defScope s_code) .none kV2 doc2 pm2 an2 (.ref c2) ct2), sl2⟩) (gc2 : PySem.W.codeIn K (.ref c2) "is_code" = true) (gk2 : PySem.W.keepIn K (.ref p2) = true)
    (rn2 : (recsOf q).find? (fun e => e.name == ("is_code" : Str)) = some dn2) (lc2 : K.lookup c2 = some ⟨occ2, odc2, .fields cvs2, slc2⟩) (v11_2 : cvs2[11]? = some (.ref T2)) (tbn2 : K.lookup T2 = none)
    (A0 : AtN K "is_whole" s_is_whole f0 fd0)
    (A1 : AtN K "part_is_right" s_part f1 fd1)
    (A2 : AtN K "_law_cell_at" s_cell f2 fd2)
    (A3 : AtN K "_law_is" s_is f3 fd3)
    (A4 : AtN K "_law_begin" s_begin f4 fd4)
    (A5 : AtN K "_law_draw" s_draw f5 fd5)
    (A6 : AtN K "_law_one" s_one f6 fd6)
    (A7 : AtN K "_law_shapes" s_shapes f7 fd7)
    (A8 : AtN K "_law_part" s_lpart f8 fd8)
    (A9 : AtN K "_law_order" s_lorder f9 fd9)
    (A10 : AtN K "_law_odd" s_odd f10 fd10)
    (A11 : AtN K "_law_bent" s_bent f11 fd11)
    (A12 : AtN K "_law_is_below" s_below f12 fd12)
    (A13 : AtN K "_law_is_name" s_lname f13 fd13)
    (A14 : AtN K "_law_is_part" s_ispart f14 fd14)
    (A15 : AtN K "_law_is_order" s_isorder f15 fd15)
    (A16 : AtN K "_law_due" s_due f16 fd16)
    (aL : PySem.W.nsIn K mainGlobals "law" = some (some (.ref fL))) (lL : K.lookup fL = some ⟨ocL, odL, .func (PySem.W.fnOf "law" "law" (defArgs s_law) (defBody s_law) (defScope s_law) .none kVL docL pmL anL cdL ctL), slL⟩) (cL : PySem.W.codeIn K cdL "law" = true) (kL : PySem.W.keepIn K (.ref fL) = true)
    (gT : PySem.W.nsIn K mainGlobals "TONGUE" = some (some (.ref tA))) (lT : K.lookup tA = some ⟨.type "tuple", dT, .seq its nT, slT⟩) (vT : Vals tongV its.toList) (zT : its.size ≤ sizeLine)
    (gM : PySem.W.nsIn K mainGlobals "MOST_LETTERS" = some (some (.int 8 tk1))) (gL : PySem.W.nsIn K mainGlobals "LETTERS" = some (some (.str abc tk2))) (gS : PySem.W.nsIn K mainGlobals "MOST_SLOTS" = some (some (.int 60 tk3))) (gN : PySem.W.nsIn K mainGlobals "MOST_NUMBER" = some (some (.int 9999 tk4)))
    (gF : PySem.W.nsIn K mainGlobals "ORDERS" = some (some (.ref fA))) (lF : K.lookup fA = some ⟨.type "dict", none, .dict es nE, #[]⟩) (kl : PySem.W.KeysLit w.params es.toList) (ky : es.toList.all keyB = true) (lo : (fA == sysModules) = false)
    (m0 : FmA K fA (Str.ofString "take") (["hand", "name"].map Str.ofString))
    (m1 : FmA K fA (Str.ofString "ask") (["hand"].map Str.ofString))
    (m2 : FmA K fA (Str.ofString "number") (["hand", "number"].map Str.ofString))
    (m3 : FmA K fA (Str.ofString "copy") (["hand", "hand"].map Str.ofString))
    (m4 : FmA K fA (Str.ofString "mix") (["hand", "hand", "hand"].map Str.ofString))
    (m5 : FmA K fA (Str.ofString "open") (["hand", "hand"].map Str.ofString))
    (m6 : FmA K fA (Str.ofString "tell") (["hand"].map Str.ofString))
    (m7 : FmA K fA (Str.ofString "wipe") (["hand"].map Str.ofString))
    (m8 : FmA K fA (Str.ofString "lay") (["slot", "hand"].map Str.ofString))
    (m9 : FmA K fA (Str.ofString "fetch") (["hand", "slot"].map Str.ofString))
    (m10 : FmA K fA (Str.ofString "clean") (["slot"].map Str.ofString))
    (z0 : PySem.W.nsIn K mainGlobals "isinstance" = some none) (z1 : PySem.W.nsIn K mainGlobals "str" = some none) (z2 : PySem.W.nsIn K mainGlobals "len" = some none) (z3 : PySem.W.nsIn K mainGlobals "all" = some none) (z4 : PySem.W.nsIn K mainGlobals "int" = some none) (z5 : PySem.W.nsIn K mainGlobals "bool" = some none) (z6 : PySem.W.nsIn K mainGlobals "tuple" = some none) (z7 : PySem.W.nsIn K mainGlobals "zip" = some none) (z8 : PySem.W.nsIn K mainGlobals "range" = some none) (z9 : PySem.W.nsIn K mainGlobals "max" = some none) (z10 : PySem.W.nsIn K mainGlobals "min" = some none) (z11 : PySem.W.nsIn K mainGlobals "sorted" = some none) (z12 : PySem.W.nsIn K mainGlobals "list" = some none) :
    LamX.LawAtS l w K CX0 9 63 "_law_script" mg fa h := by
  have G := top.g
  have e := hfa.symm.trans (PySem.W.mg_of X G aL)
  cases e
  have tb0 : PySem.W.tabIn K "is_name" = some (c0, T0) := tab_mk ga0 gl0 rfl lc0 v11_0
  obtain ⟨chd0, cT0⟩ := PySem.W.tab_of top X rn0 tb0
  have tb1 : PySem.W.tabIn K "is_order" = some (c1, T1) := tab_mk ga1 gl1 rfl lc1 v11_1
  obtain ⟨chd1, cT1⟩ := PySem.W.tab_of top X rn1 tb1
  have tb2 : PySem.W.tabIn K "is_code" = some (c2, T2) := tab_mk ga2 gl2 rfl lc2 v11_2
  obtain ⟨chd2, cT2⟩ := PySem.W.tab_of top X rn2 tb2
  have FL := fun_mk (st := s_law) lL cL kL
  refine ⟨PySem.W.fnOf "law" "law" (defArgs s_law) (defBody s_law) (defScope s_law) .none kVL docL pmL anL cdL ctL, [(c0, T0), (c1, T1), (c2, T2)], spLaw K T0 T1 T2, ?_, ?_, ?_, fun s v => .of_eq rfl, ?_, fun base inB gls tabs => ?_⟩
  · intro p hp
    simp only [List.mem_cons, List.not_mem_nil, or_false] at hp
    rcases hp with rfl | rfl | rfl
    · exact cT0
    · exact cT1
    · exact cT2
  · intro p hp
    simp only [List.mem_cons, List.not_mem_nil, or_false] at hp
    rcases hp with rfl | rfl | rfl
    · exact tbn0
    · exact tbn1
    · exact tbn2
  · intro p hp
    simp only [List.mem_cons, List.not_mem_nil, or_false] at hp
    rcases hp with rfl | rfl | rfl
    · exact chd0
    · exact chd1
    · exact chd2
  · intro H a ns hl _ hH hS
    exact ⟨a, ns, rfl, hS, hl, ⟨#[], hH (c0, T0) (by simp), True.intro⟩, ⟨#[], hH (c1, T1) (by simp), True.intro⟩, ⟨#[], hH (c2, T2) (by simp), True.intro⟩, fun _ => rfl⟩
  · skip
    have tab0 : GxR.TabB base mg c0 T0 := by
      obtain ⟨u1, u2, u3⟩ := tabs (c0, T0) (by simp)
      exact ⟨u1, u2, u3⟩
    have tab1 : GxR.TabB base mg c1 T1 := by
      obtain ⟨u1, u2, u3⟩ := tabs (c1, T1) (by simp)
      exact ⟨u1, u2, u3⟩
    have tab2 : GxR.TabB base mg c2 T2 := by
      obtain ⟨u1, u2, u3⟩ := tabs (c2, T2) (by simp)
      exact ⟨u1, u2, u3⟩
    have M : Mg K mg tA := ⟨PySem.W.mg_none_of X G z0, PySem.W.mg_none_of X G z1, PySem.W.mg_none_of X G z2, PySem.W.mg_none_of X G z3, PySem.W.mg_of X G gT, fun H => .inr ⟨_, its, nT, lT, rfl, rfl, zT, vT⟩, ⟨_, PySem.W.mg_of X G gM⟩, ⟨_, PySem.W.mg_of X G gL⟩⟩
    have one : ∀ k ks, FmA K fA k ks → ∃ t, PySem.W.nsIn K fA k = some (some (.ref t)) ∧ KDct K w fA k (.ref t) ∧ ∀ H, SqT K H t (ks.map V.str) := fun k ks ⟨t, h1, d, its, n, sl, h2, h3, h4⟩ => ⟨t, h1, ⟨es, nE, _, lF, kl, h1, rfl⟩, fun H => .inr ⟨_, its, n, h2, rfl, rfl, h3, h4⟩⟩
    have MF : Fk K w mg fA es nE := ⟨PySem.W.mg_of X G gF, ⟨lF, kl, lo⟩, fun z ks hk => by
      unfold frm? at hk
      cases hf : formT.find? (fun p => p.1 == z) with
      | none => rw [hf] at hk; cases hk
      | some p =>
        rw [hf] at hk
        have e1 : p.2 = ks := Option.some.inj hk
        have e3 : (p.1 == z) = true := List.find?_some (p := fun p : Str × List Str => p.1 == z) hf
        have e2 : p.1 = z := eq_of_beq e3
        have hm : p ∈ [(Str.ofString "take", ["hand", "name"].map Str.ofString), (Str.ofString "ask", ["hand"].map Str.ofString), (Str.ofString "number", ["hand", "number"].map Str.ofString), (Str.ofString "copy", ["hand", "hand"].map Str.ofString), (Str.ofString "mix", ["hand", "hand", "hand"].map Str.ofString), (Str.ofString "open", ["hand", "hand"].map Str.ofString), (Str.ofString "tell", ["hand"].map Str.ofString), (Str.ofString "wipe", ["hand"].map Str.ofString), (Str.ofString "lay", ["slot", "hand"].map Str.ofString), (Str.ofString "fetch", ["hand", "slot"].map Str.ofString), (Str.ofString "clean", ["slot"].map Str.ofString)] := List.mem_of_find?_eq_some hf
        rw [← e1, ← e2]
        simp only [List.mem_cons, List.not_mem_nil, or_false] at hm
        rcases hm with rfl | rfl | rfl | rfl | rfl | rfl | rfl | rfl | rfl | rfl | rfl
        · exact one _ _ m0
        · exact one _ _ m1
        · exact one _ _ m2
        · exact one _ _ m3
        · exact one _ _ m4
        · exact one _ _ m5
        · exact one _ _ m6
        · exact one _ _ m7
        · exact one _ _ m8
        · exact one _ _ m9
        · exact one _ _ m10, no_mk lF ky⟩
    have m_isinstance := PySem.W.mg_none_of X G z0
    have m_str := PySem.W.mg_none_of X G z1
    have m_len := PySem.W.mg_none_of X G z2
    have m_all := PySem.W.mg_none_of X G z3
    have m_int := PySem.W.mg_none_of X G z4
    have m_bool := PySem.W.mg_none_of X G z5
    have m_tuple := PySem.W.mg_none_of X G z6
    have m_zip := PySem.W.mg_none_of X G z7
    have m_range := PySem.W.mg_none_of X G z8
    have m_max := PySem.W.mg_none_of X G z9
    have m_min := PySem.W.mg_none_of X G z10
    have m_sorted := PySem.W.mg_none_of X G z11
    have m_list := PySem.W.mg_none_of X G z12
    have gg0 := PySem.W.mg_of X G ga0
    have gF0 := fun_mk (st := sName) gl0 gc0 gk0
    have gb0 := gF0.binds (ps := ["thing"]) fun _ _ _ _ _ _ us hl => match us, hl with | [_], _ => rfl
    have gg1 := PySem.W.mg_of X G ga1
    have gF1 := fun_mk (st := s_form) gl1 gc1 gk1
    have gb1 := gF1.binds (ps := ["hands", "thing"]) fun _ _ _ _ _ _ us hl => match us, hl with | [_, _], _ => rfl
    have gg2 := PySem.W.mg_of X G ga2
    have gF2 := fun_mk (st := s_code) gl2 gc2 gk2
    have gb2 := gF2.binds (ps := ["hands", "thing"]) fun _ _ _ _ _ _ us hl => match us, hl with | [_, _], _ => rfl
    have g0 := PySem.W.mg_of X G A0.a
    have b0 := A0.F.binds (ps := ["thing"]) fun _ _ _ _ _ _ us hl => match us, hl with | [_], _ => rfl
    have g1 := PySem.W.mg_of X G A1.a
    have b1 := A1.F.binds (ps := ["kind", "part", "hands"]) fun _ _ _ _ _ _ us hl => match us, hl with | [_, _, _], _ => rfl
    have g2 := PySem.W.mg_of X G A2.a
    have b2 := A2.F.binds (ps := ["_law_script", "_law_k"]) fun _ _ _ _ _ _ us hl => match us, hl with | [_, _], _ => rfl
    have g3 := PySem.W.mg_of X G A3.a
    have b3 := A3.F.binds (ps := ["_law_found", "_law_due_here"]) fun _ _ _ _ _ _ us hl => match us, hl with | [_, _], _ => rfl
    have g4 := PySem.W.mg_of X G A4.a
    have b4 := A4.F.binds (ps := ["_law_cell"]) fun _ _ _ _ _ _ us hl => match us, hl with | [_], _ => rfl
    have g5 := PySem.W.mg_of X G A5.a
    have b5 := A5.F.binds (ps := ["_law_state", "_law_many"]) fun _ _ _ _ _ _ us hl => match us, hl with | [_, _], _ => rfl
    have g6 := PySem.W.mg_of X G A6.a
    have b6 := A6.F.binds (ps := ["_law_state", "_law_row"]) fun _ _ _ _ _ _ us hl => match us, hl with | [_, _], _ => rfl
    have g7 := PySem.W.mg_of X G A7.a
    have b7 := A7.F.binds (ps := []) fun _ _ _ _ _ _ us hl => match us, hl with | [], _ => rfl
    have g8 := PySem.W.mg_of X G A8.a
    have b8 := A8.F.binds (ps := ["_law_state", "_law_sign", "_law_hands"]) fun _ _ _ _ _ _ us hl => match us, hl with | [_, _, _], _ => rfl
    have g9 := PySem.W.mg_of X G A9.a
    have b9 := A9.F.binds (ps := ["_law_state", "_law_hands"]) fun _ _ _ _ _ _ us hl => match us, hl with | [_, _], _ => rfl
    have g10 := PySem.W.mg_of X G A10.a
    have b10 := A10.F.binds (ps := ["_law_state", "_law_hands"]) fun _ _ _ _ _ _ us hl => match us, hl with | [_, _], _ => rfl
    have g11 := PySem.W.mg_of X G A11.a
    have b11 := A11.F.binds (ps := ["_law_state", "_law_code", "_law_hands"]) fun _ _ _ _ _ _ us hl => match us, hl with | [_, _, _], _ => rfl
    have g12 := PySem.W.mg_of X G A12.a
    have b12 := A12.F.binds (ps := ["_law_thing", "_law_end"]) fun _ _ _ _ _ _ us hl => match us, hl with | [_, _], _ => rfl
    have g13 := PySem.W.mg_of X G A13.a
    have b13 := A13.F.binds (ps := ["_law_thing"]) fun _ _ _ _ _ _ us hl => match us, hl with | [_], _ => rfl
    have g14 := PySem.W.mg_of X G A14.a
    have b14 := A14.F.binds (ps := ["_law_sign", "_law_thing", "_law_hands"]) fun _ _ _ _ _ _ us hl => match us, hl with | [_, _, _], _ => rfl
    have g15 := PySem.W.mg_of X G A15.a
    have b15 := A15.F.binds (ps := ["_law_thing", "_law_hands"]) fun _ _ _ _ _ _ us hl => match us, hl with | [_, _], _ => rfl
    have g16 := PySem.W.mg_of X G A16.a
    have b16 := A16.F.binds (ps := ["_law_thing", "_law_hands"]) fun _ _ _ _ _ _ us hl => match us, hl with | [_, _], _ => rfl
    have o_name : FnOk l.prog w K mg base CX0 1 p0 _ ["thing"] (spName K T0) := ok_name gl0 gc0 tab0 M gls
    have o_nameD := name_data o_name
    have o_whole : FnOk l.prog w K mg base CX0 1 f0 fd0 ["thing"] (spWhole K) := ok_is_whole A0.F m_isinstance m_int m_bool
    have o_part : FnOk l.prog w K mg base CX0 2 f1 fd1 ["kind", "part", "hands"] (spPart K T0) := ok_part A1.F ⟨o_nameD.mono (by decide), gk0, gb0, gg0⟩ ⟨o_whole.mono (by decide), A0.F.kp, b0, g0⟩ ⟨_, PySem.W.mg_of X G gS⟩ ⟨_, PySem.W.mg_of X G gN⟩
    have o_form : FnOk l.prog w K mg base CX0 5 p1 _ ["hands", "thing"] (spForm K T0 T1) := ok_form gl1 gc1 tab1 ⟨o_part.mono (by decide), A1.F.kp, b1, g1⟩ MF m_isinstance m_tuple m_str m_all m_len m_zip
    have o_code : FnOk l.prog w K mg base CX0 8 p2 _ ["hands", "thing"] (spCode K T0 T1 T2) := ok_code gl2 gc2 tab2 ⟨o_form.mono (by decide), gk1, gb1, gg1⟩ m_isinstance m_tuple m_all
    have o_cell : FnOk l.prog w K mg base CX0 1 f2 fd2 ["_law_script", "_law_k"] (spCell K) := ok_cell A2.F m_len
    have o_is : FnOk l.prog w K mg base CX0 1 f3 fd3 ["_law_found", "_law_due_here"] spIs := ok_is A3.F m_isinstance m_bool
    have o_begin : FnOk l.prog w K mg base CX0 1 f4 fd4 ["_law_cell"] spBegin := ok_begin A4.F
    have o_draw : FnOk l.prog w K mg base CX0 1 f5 fd5 ["_law_state", "_law_many"] spDraw := ok_draw A5.F
    have o_one : FnOk l.prog w K mg base CX0 2 f6 fd6 ["_law_state", "_law_row"] (spOne K) := ok_one A6.F ⟨o_draw.mono (by decide), A5.F.kp, b5, g5⟩ m_len
    have o_sh : FnOk l.prog w K mg base CX0 1 f7 fd7 [] spShapes := ok_shapes A7.F
    have o_lpart : FnOk l.prog w K mg base CX0 2 f8 fd8 ["_law_state", "_law_sign", "_law_hands"] spLPart := ok_lpart A8.F ⟨o_draw.mono (by decide), A5.F.kp, b5, g5⟩ m_range
    have o_lorder : FnOk l.prog w K mg base CX0 3 f9 fd9 ["_law_state", "_law_hands"] (spLOrder K) := ok_lorder A9.F ⟨o_one.mono (by decide), A6.F.kp, b6, g6⟩ ⟨o_sh.mono (by decide), A7.F.kp, b7, g7⟩ ⟨o_lpart.mono (by decide), A8.F.kp, b8, g8⟩ m_sorted m_tuple
    have o_odd : FnOk l.prog w K mg base CX0 2 f10 fd10 ["_law_state", "_law_hands"] (spOdd K) := ok_odd A10.F ⟨o_draw.mono (by decide), A5.F.kp, b5, g5⟩ m_len
    have o_bent : FnOk l.prog w K mg base CX0 3 f11 fd11 ["_law_state", "_law_code", "_law_hands"] (spBent K) := ok_bent A11.F ⟨o_one.mono (by decide), A6.F.kp, b6, g6⟩ ⟨o_sh.mono (by decide), A7.F.kp, b7, g7⟩ ⟨o_odd.mono (by decide), A10.F.kp, b10, g10⟩ ⟨o_draw.mono (by decide), A5.F.kp, b5, g5⟩ m_sorted m_list m_len
    have o_below : FnOk l.prog w K mg base CX0 1 f12 fd12 ["_law_thing", "_law_end"] (spBelow K) := ok_below A12.F m_isinstance m_int m_bool
    have o_lname : FnOk l.prog w K mg base CX0 1 f13 fd13 ["_law_thing"] (spLName K) := ok_lname A13.F m_isinstance m_str m_len
    have o_isp : FnOk l.prog w K mg base CX0 2 f14 fd14 ["_law_sign", "_law_thing", "_law_hands"] (spIsPart K) := ok_ispart A14.F ⟨o_lname.mono (by decide), A13.F.kp, b13, g13⟩ ⟨o_below.mono (by decide), A12.F.kp, b12, g12⟩
    have o_iso : FnOk l.prog w K mg base CX0 3 f15 fd15 ["_law_thing", "_law_hands"] (spIsOrder K) := ok_isorder A15.F ⟨o_sh.mono (by decide), A7.F.kp, b7, g7⟩ ⟨o_isp.mono (by decide), A14.F.kp, b14, g14⟩ m_isinstance m_tuple m_str m_len m_zip
    have o_due : FnOk l.prog w K mg base CX0 4 f16 fd16 ["_law_thing", "_law_hands"] (spDue K) := ok_due A16.F ⟨o_iso.mono (by decide), A15.F.kp, b15, g15⟩ m_isinstance m_tuple
    exact ok_law (k := 8) FL ⟨o_begin.mono (by decide), A4.F.kp, b4, g4⟩ ⟨o_cell.mono (by decide), A2.F.kp, b2, g2⟩ ⟨o_draw.mono (by decide), A5.F.kp, b5, g5⟩ ⟨o_lorder.mono (by decide), A9.F.kp, b9, g9⟩ ⟨o_bent.mono (by decide), A11.F.kp, b11, g11⟩ ⟨o_due.mono (by decide), A16.F.kp, b16, g16⟩ ⟨o_is.mono (by decide), A3.F.kp, b3, g3⟩ ⟨o_code.mono (by decide), gk2, gb2, gg2⟩ m_len m_range m_max m_min m_tuple m_list
end K43

open PySem PySem.W PyProof.Rows
set_option maxRecDepth 100000 in
set_option maxHeartbeats 0 in
theorem PySem.Challenge.cw_wipeways_k43_what_is_a_code_holds : PySem.Challenge.rw_wipeways_k43_what_is_a_code.Holds := by
  w_on; o_law; k_head; (case hw => w_witness2)
  k_fill
  refine Kk.walkT (l := PySem.Challenge.rw_wipeways_k43_what_is_a_code) (m := 63) (lev := 9) (x := "_law_script") rfl (by decide) rfl ⟨rfl, by decide, by decide⟩ (fun w h Y => PySem.W.kIn_of Y) ?F
  case F =>
    intro w mg mb mean fa h KX top hmg
    refine' K43.all_mk KX top hmg ?ga0 ?gl0 ?gc0 ?gk0 ?rn0 ?lc0 ?v11_0 ?tbn0 ?ga1 ?gl1 ?gc1 ?gk1 ?rn1 ?lc1 ?v11_1 ?tbn1 ?ga2 ?gl2 ?gc2 ?gk2 ?rn2 ?lc2 ?v11_2 ?tbn2 (K43.at_mk ?b0 ?l_0 ?c_0 ?k_0) (K43.at_mk ?b1 ?l_1 ?c_1 ?k_1) (K43.at_mk ?b2 ?l_2 ?c_2 ?k_2) (K43.at_mk ?b3 ?l_3 ?c_3 ?k_3) (K43.at_mk ?b4 ?l_4 ?c_4 ?k_4) (K43.at_mk ?b5 ?l_5 ?c_5 ?k_5) (K43.at_mk ?b6 ?l_6 ?c_6 ?k_6) (K43.at_mk ?b7 ?l_7 ?c_7 ?k_7) (K43.at_mk ?b8 ?l_8 ?c_8 ?k_8) (K43.at_mk ?b9 ?l_9 ?c_9 ?k_9) (K43.at_mk ?b10 ?l_10 ?c_10 ?k_10) (K43.at_mk ?b11 ?l_11 ?c_11 ?k_11) (K43.at_mk ?b12 ?l_12 ?c_12 ?k_12) (K43.at_mk ?b13 ?l_13 ?c_13 ?k_13) (K43.at_mk ?b14 ?l_14 ?c_14 ?k_14) (K43.at_mk ?b15 ?l_15 ?c_15 ?k_15) (K43.at_mk ?b16 ?l_16 ?c_16 ?k_16) ?aL ?lL ?cL ?kL ?gT ?lT ?vT ?zT ?gM ?gL ?gS ?gN ?gF ?lF ?kl ?ky ?lo (K43.fmA_mk ?n0 ?t0 ?s0 ?u0) (K43.fmA_mk ?n1 ?t1 ?s1 ?u1) (K43.fmA_mk ?n2 ?t2 ?s2 ?u2) (K43.fmA_mk ?n3 ?t3 ?s3 ?u3) (K43.fmA_mk ?n4 ?t4 ?s4 ?u4) (K43.fmA_mk ?n5 ?t5 ?s5 ?u5) (K43.fmA_mk ?n6 ?t6 ?s6 ?u6) (K43.fmA_mk ?n7 ?t7 ?s7 ?u7) (K43.fmA_mk ?n8 ?t8 ?s8 ?u8) (K43.fmA_mk ?n9 ?t9 ?s9 ?u9) (K43.fmA_mk ?n10 ?t10 ?s10 ?u10) ?z0 ?z1 ?z2 ?z3 ?z4 ?z5 ?z6 ?z7 ?z8 ?z9 ?z10 ?z11 ?z12
    (case ga0 => k_is); (case gl0 => k_is); (case gc0 => k_is); (case gk0 => k_is)
    (case ga1 => k_is); (case gl1 => k_is); (case gc1 => k_is); (case gk1 => k_is)
    (case ga2 => k_is); (case gl2 => k_is); (case gc2 => k_is); (case gk2 => k_is)
    (case b0 => k_is); (case l_0 => k_is); (case c_0 => k_is); (case k_0 => k_is)
    (case b1 => k_is); (case l_1 => k_is); (case c_1 => k_is); (case k_1 => k_is)
    (case b2 => k_is); (case l_2 => k_is); (case c_2 => k_is); (case k_2 => k_is)
    (case b3 => k_is); (case l_3 => k_is); (case c_3 => k_is); (case k_3 => k_is)
    (case b4 => k_is); (case l_4 => k_is); (case c_4 => k_is); (case k_4 => k_is)
    (case b5 => k_is); (case l_5 => k_is); (case c_5 => k_is); (case k_5 => k_is)
    (case b6 => k_is); (case l_6 => k_is); (case c_6 => k_is); (case k_6 => k_is)
    (case b7 => k_is); (case l_7 => k_is); (case c_7 => k_is); (case k_7 => k_is)
    (case b8 => k_is); (case l_8 => k_is); (case c_8 => k_is); (case k_8 => k_is)
    (case b9 => k_is); (case l_9 => k_is); (case c_9 => k_is); (case k_9 => k_is)
    (case b10 => k_is); (case l_10 => k_is); (case c_10 => k_is); (case k_10 => k_is)
    (case b11 => k_is); (case l_11 => k_is); (case c_11 => k_is); (case k_11 => k_is)
    (case b12 => k_is); (case l_12 => k_is); (case c_12 => k_is); (case k_12 => k_is)
    (case b13 => k_is); (case l_13 => k_is); (case c_13 => k_is); (case k_13 => k_is)
    (case b14 => k_is); (case l_14 => k_is); (case c_14 => k_is); (case k_14 => k_is)
    (case b15 => k_is); (case l_15 => k_is); (case c_15 => k_is); (case k_15 => k_is)
    (case b16 => k_is); (case l_16 => k_is); (case c_16 => k_is); (case k_16 => k_is)
    (case aL => k_is); (case lL => k_is); (case cL => k_is); (case kL => k_is)
    (case gT => k_is); (case lT => k_is); (case gM => k_is); (case gL => k_is); (case gS => k_is); (case gN => k_is)
    (case gF => k_is); (case lF => k_is)
    (case n0 => k_is); (case t0 => k_is)
    (case n1 => k_is); (case t1 => k_is)
    (case n2 => k_is); (case t2 => k_is)
    (case n3 => k_is); (case t3 => k_is)
    (case n4 => k_is); (case t4 => k_is)
    (case n5 => k_is); (case t5 => k_is)
    (case n6 => k_is); (case t6 => k_is)
    (case n7 => k_is); (case t7 => k_is)
    (case n8 => k_is); (case t8 => k_is)
    (case n9 => k_is); (case t9 => k_is)
    (case n10 => k_is); (case t10 => k_is)
    (case z0 => k_is); (case z1 => k_is); (case z2 => k_is); (case z3 => k_is); (case z4 => k_is); (case z5 => k_is); (case z6 => k_is); (case z7 => k_is); (case z8 => k_is); (case z9 => k_is); (case z10 => k_is); (case z11 => k_is); (case z12 => k_is)
    (case lc0 => k_is); (case v11_0 => rfl); (case tbn0 => first | rfl | k_is | kernel_rfl); (case rn0 => rfl)
    (case lc1 => k_is); (case v11_1 => rfl); (case tbn1 => first | rfl | k_is | kernel_rfl); (case rn1 => rfl)
    (case lc2 => k_is); (case v11_2 => rfl); (case tbn2 => first | rfl | k_is | kernel_rfl); (case rn2 => rfl)
    (case zT => decide)
    (case vT => exact .cons ⟨_, rfl⟩ (.cons ⟨_, rfl⟩ (.cons ⟨_, rfl⟩ (.cons ⟨_, rfl⟩ (.cons ⟨_, rfl⟩ (.cons ⟨_, rfl⟩ (.cons ⟨_, rfl⟩ (.cons ⟨_, rfl⟩ (.cons ⟨_, rfl⟩ (.cons ⟨_, rfl⟩ (.cons ⟨_, rfl⟩ (.cons ⟨_, rfl⟩ (.cons ⟨_, rfl⟩ (.cons ⟨_, rfl⟩ (.cons ⟨_, rfl⟩ (.cons ⟨_, rfl⟩ (.cons ⟨_, rfl⟩ (.cons ⟨_, rfl⟩ (.cons ⟨_, rfl⟩ .nil)))))))))))))))))))
    (case kl => exact ⟨⟨_, _, rfl, rfl⟩, ⟨⟨_, _, rfl, rfl⟩, ⟨⟨_, _, rfl, rfl⟩, ⟨⟨_, _, rfl, rfl⟩, ⟨⟨_, _, rfl, rfl⟩, ⟨⟨_, _, rfl, rfl⟩, ⟨⟨_, _, rfl, rfl⟩, ⟨⟨_, _, rfl, rfl⟩, ⟨⟨_, _, rfl, rfl⟩, ⟨⟨_, _, rfl, rfl⟩, ⟨⟨_, _, rfl, rfl⟩, trivial⟩⟩⟩⟩⟩⟩⟩⟩⟩⟩⟩)
    (case ky => first | rfl | decide +kernel | kernel_rfl)
    (case lo => first | rfl | decide +kernel)
    (case s0 => decide); (case u0 => exact .cons ⟨_, rfl⟩ (.cons ⟨_, rfl⟩ (.nil)))
    (case s1 => decide); (case u1 => exact .cons ⟨_, rfl⟩ (.nil))
    (case s2 => decide); (case u2 => exact .cons ⟨_, rfl⟩ (.cons ⟨_, rfl⟩ (.nil)))
    (case s3 => decide); (case u3 => exact .cons ⟨_, rfl⟩ (.cons ⟨_, rfl⟩ (.nil)))
    (case s4 => decide); (case u4 => exact .cons ⟨_, rfl⟩ (.cons ⟨_, rfl⟩ (.cons ⟨_, rfl⟩ (.nil))))
    (case s5 => decide); (case u5 => exact .cons ⟨_, rfl⟩ (.cons ⟨_, rfl⟩ (.nil)))
    (case s6 => decide); (case u6 => exact .cons ⟨_, rfl⟩ (.nil))
    (case s7 => decide); (case u7 => exact .cons ⟨_, rfl⟩ (.nil))
    (case s8 => decide); (case u8 => exact .cons ⟨_, rfl⟩ (.cons ⟨_, rfl⟩ (.nil)))
    (case s9 => decide); (case u9 => exact .cons ⟨_, rfl⟩ (.cons ⟨_, rfl⟩ (.nil)))
    (case s10 => decide); (case u10 => exact .cons ⟨_, rfl⟩ (.nil))

